import PyProof.Rows.All
import Wide.All
import OpenK.AllK
import Wide.FinOn
import PyProof.EqAt
import PyProof.EqKinds
import PyProof.TupleCall
import KE.KExcSuper
import KE.KExcIs
import HandS.ForMost
import HandS.Exc
import HandS.ExcOwn
import HandS.WordsExc
import HandS.HotCalls
import HandS.Wide
import HandS.ExcInit
import HandS.TryMany
import HandS.ExcField
import HandS.Star
import HandS.IsInst
import HandS.CallLocal
import HandS.Iter
import HandS.More
import HandS.Codes
import HandS.Walk
import HandS.ForDict
import HandS.Defaults
import HandS.DictComp
import HandS.CallSlots
import HandS.Style
import PyProof.SliceList
import KE.RegKSuper
import HandS.HeadHook3
import PySem.Challenge.RW_tagblocks_k02_head_lines_read
set_option Elab.async false
set_option linter.all false
set_option maxRecDepth 100000
set_option maxHeartbeats 2000000
/-! Part A: an own error over a common error over ValueError; its __init__ says super().__init__('..') and stores its arguments. -/
namespace ErrA
open PySem PySem.W PySem.Calls PyProof.Rows PySem.HandSPX
/-- what the written part tells of the class at C; its __init__ at fI closes over the cell cc, its code object stands at cda -/
structure ErrTxt (P : Program) (K : Frag) (C fI cc cda : Addr) (qual : Str) (st : Stmt) : Prop where
  cls : ∃ nm q N bs bm sn sub ab col dd k0 k1 k2 k3 k5, K.lookup C = some (excClassObj nm q C N bs bm true sn sub ab col dd k0 k1 k2 k3 k5 "ValueError.__new__") ∧ refsVE bm = true
  sa : findIn K (.ref C) "__setattr__" = some (some (.builtin "object.__setattr__"))
  iC : findIn K (.ref C) "__init__" = some (some (.ref fI))
  tI : typeIn K (.ref fI) = some (.type "function")
  kC : keepIn K (.ref C) = true
  exC : subIn K (.ref C) (.type "BaseException") = some true
  veC : subIn K (.ref C) (.type "ValueError") = some true
  meC : mroIn K C (.ref C) = some true
  tyC : typeIn K (.ref C) = some (.type "type")
  sup : ks_superIn K C C "__init__" = some (some (.builtin "ValueError.__init__"))
  opq : nsIn K cStatics "thirdparty.any" = some none
  gS : nsIn K mainGlobals "super" = some none
  cell : ∃ cl cld csl, K.lookup cc = some ⟨cl, cld, .cell (some (.ref C)), csl⟩
  code : ∃ (ccl : Value) (cdd : Option Addr) (vs : Array Value) (ccs : Array (Option Value)) (file : Str) (tf : Tok), K.lookup cda = some ⟨ccl, cdd, .fields vs, ccs⟩ ∧ vs[2]? = some (.str file tf) ∧ ((P.main.file : Str) == file) = true
  rec_ : codeIn K (.ref cda) qual = true
  fn : ∃ (oc : Value) (od : Option Addr) (kV doc pm : Value) (an : Option Addr) (ct : Value) (osl : Array (Option Value)),
    K.lookup fI = some ⟨oc, od, .func (ksFn "__init__" qual (L2.defArgs st) (L2.defBody st) (L2.defScope st) .none kV doc pm an (.ref cda) ct cc), osl⟩
/-- what the module's names are over the base -/
structure Gnd (K : Frag) (mg : Str → Option Value) (base : Heap) : Prop where
  kin : K.In base
  glob : base.Ns mainGlobals mg
  blt : ∃ mb, base.Ns builtinsNs mb ∧ ∀ x : Str, x ≠ "__name__" → mb x = bootBuiltins x
  lim : base.NoLimit

section
variable {P : Program} {w : World} {K : Frag} {mg : Str → Option Value} {base : Heap} {C fI cc cda : Addr} {qual : Str} {st : Stmt} {A : Around} {E : Value → Shared → Prop}
theorem err_cls (T : ErrTxt P K C fI cc cda qual st) : ∃ cd, clsIn K C = some cd ∧ cd.hasDict = true ∧ refsVE cd.mro = true := by
  obtain ⟨nm, q, N, bs, bm, sn, sub, ab, col, dd, k0, k1, k2, k3, k5, hC, hbm⟩ := T.cls
  refine ⟨_, by unfold clsIn; rw [hC] <;> rfl, rfl, ?_⟩
  exact hbm
/-- the built-in __init__, bound to the exception at x, called -/
theorem bound_init (T : ErrTxt P K C fI cc cda qual st) {x t0 u : Addr} {rest : List Value} {h : Heap} {g : Array GenState} {d : Drawn} {t : Nat} {os : OsState} {Q : Value → Shared → Prop} (X : K.In h)
    (hx : h.get? x = some (excO C t0)) (hu : h.get? u = some (kxs_mw "ValueError.__init__" x)) (hl : rest.length ≤ sizeLine)
    (hq : ∀ h' t1, (∀ b o, b ≠ x → h.get? b = some o → h'.get? b = some o) → h'.get? x = some (excO C t1) → Q .none ⟨h', g, d, t, os⟩) :
    wpAny (model P w) A (call (.ref u) rest) Q E ⟨h, g, d, t, os⟩ := by
  obtain ⟨nm, q, N, bs, bm, sn, sub, ab, col, dd, k0, k1, k2, k3, k5, hC, hbm⟩ := T.cls
  have hC' := X _ _ hC
  refine wpAny_call (codeAny_of_tree ?_)
  show wpAny _ A.in1 (callAny (.ref u) ⟨rest, []⟩) _ _ _
  unfold callAny
  refine wpAny_bind (wpAny_load hu ?_)
  refine KFB.if_so rfl ?_
  refine wpAny_bind (check_bound_init PySem.F.excBase_ValueError.toExcCallFacts hC' hx rfl ?_)
  refine wpAny_bind (wpAny_pure (wpAny_pure ⟨plainId_quiet PySem.F.excBase_ValueError.init.plain _, codeAny_builtin PySem.F.excBase_ValueError.initEntry ?_⟩))
  exact exc_init_tree (cls := .ref C) (dv := none) (c2 := .none) (c3 := .none) (b4 := .bool false) hx hl fun h' k e _ => hq h' _ k e
end
end ErrA
namespace ErrA
open PySem PySem.W PySem.Calls PyProof.Rows PySem.HandSPX
section
variable {P : Program} {w : World} {K : Frag} {mg : Str → Option Value} {base : Heap} {C fI cc cda : Addr} {qual : Str} {st : Stmt} {A : Around} {E : Value → Shared → Prop}
/-- the frame of such an __init__ -/
abbrev eV (qual : Str) (st : Stmt) (L fI cda cc : Addr) : Env := ksEnv qual (L2.defScope st) L fI (.ref cda) cc
/-- what is asked of the text of such an __init__ -/
structure ErrScope (P : Program) (st : Stmt) (fl : List Str) (p0 p1 p2 p3 p4 : Pos) (msg : Str) (kk : Nat) : Prop where
  mc : ∀ (qual : Str) (L fI cda cc : Addr), ∃ pl : Sem Bool, eval (.Call (.Attribute (.Call (.Name "super" p0) [] [] p1) "__init__" p2) [.Constant (.str msg) kk p3] [] p4) (eV qual st L fI cda cc) = (do
      let ov ← attributeBase (.Call (.Name "super" p0) [] [] p1) "__init__" (eV qual st L fI cda cc) (eval (.Call (.Name "super" p0) [] [] p1) (eV qual st L fI cda cc))
      standAt p2.atName
      let (f, first) ← holding [ov] (getMethod ov "__init__" pl)
      callWith p4 f first (backTo p4 (starEach [.Constant (.str msg) kk p3] (eV qual st L fI cda cc))) [])
  kS : (L2.defScope st).names.lookup ("super" : Str) = some .globalImplicit
  kC : (L2.defScope st).names.lookup ("__class__" : Str) = some .free
  kL : ∀ f ∈ ("self" : Str) :: fl, (L2.defScope st).names.lookup f = some .local
  kF : (L2.defScope st).kind = .function
  kG : (L2.defScope st).isGenerator = false
  kO : (L2.defScope st).isCoroutine = false
  kN : ∀ y ∈ (L2.defScope st).names, y.2 ≠ .cell
  top : (P.main.scope.names.lookup ("super" : Str)).isSome = false
  par : ∃ ar : Arg, ((L2.defArgs st).posonlyargs ++ (L2.defArgs st).args).head? = some ar ∧ ar.arg = "self"
  dbg : ∀ f ∈ ("self" : Str) :: fl, (f == ("__debug__" : Str)) = false
/-- super().__init__('..') -/
theorem super_line {L x t0 : Addr} {m : Str → Option Value} {s : Shared} {fl : List Str} {p0 p1 p2 p3 p4 p5 : Pos} {msg : Str} {kk : Nat} {body : List Stmt} {Q : Flow → Shared → Prop} (T : ErrTxt P K C fI cc cda qual st) (S : ErrScope P st fl p0 p1 p2 p3 p4 msg kk) (G : Gnd K mg base)
    (kb : ∀ b o, base.get? b = some o → s.heap.get? b = some o) (hns : s.heap.Ns L m) (hm : m "self" = some (.ref x)) (hx : s.heap.get? x = some (excO C t0))
    (hq : ∀ h' tk t1, (∀ b o, b ≠ x → s.heap.get? b = some o → h'.get? b = some o) → h'.get? x = some (excO C t1) → Q .next { s with heap := h', toks := tk }) :
    _root_.PySem.wpAt (model P w) A (.func body (eV qual st L fI cda cc)) (exec (.Expr (.Call (.Attribute (.Call (.Name "super" p0) [] [] p1) "__init__" p2) [.Constant (.str msg) kk p3] [] p4) p5) (eV qual st L fI cda cc)) Q E s := by
  have X : K.In s.heap := G.kin.keeps kb
  have gS := mg_none_of G.kin G.glob T.gS
  obtain ⟨mb, hmb, hbt⟩ := G.blt
  obtain ⟨cd, hcd, hdct, hmro⟩ := err_cls T
  obtain ⟨oD, hD1, hD2⟩ : ∃ oD, K.lookup C = some oD ∧ oD.data = .cls cd := by
    obtain ⟨nm, q, N, bs, bm, sn, sub, ab, col, dd, k0, k1, k2, k3, k5, hC, hbm⟩ := T.cls
    unfold clsIn at hcd
    rw [hC] at hcd
    exact ⟨_, hC, by cases hcd; rfl⟩
  obtain ⟨cl, cld, csl, hcell⟩ := T.cell
  obtain ⟨ccl, cdd, vs, ccs, file, tf, hcode, hvs, hfile⟩ := T.code
  obtain ⟨oc, od, kV, doc, pm, an, ct, osl, hfn⟩ := T.fn
  obtain ⟨ar, har, harg⟩ := S.par
  obtain ⟨hh, g, d, t, os⟩ := s
  have hsup := T.sup
  unfold ks_superIn at hsup
  rw [hcd, Option.bind_some] at hsup
  have xC : x ≠ C := fun z => by
    rw [z, X _ _ hD1] at hx
    have z2 := congrArg Obj.data (Option.some.inj hx)
    rw [hD2] at z2
    cases z2
  have hint : interactive (eV qual st L fI cda cc) = false := by
    unfold interactive
    rw [show (eV qual st L fI cda cc).scope.kind = .function from S.kF]
    rfl
  obtain ⟨pl, hmc⟩ := S.mc qual L fI cda cc
  refine ks_wpAt_Expr_any (ks_wpAt_MethodCall (pl := pl) (ks_wpAt_super_base (env := eV qual st L fI cda cc) S.kS S.kC (by decide) rfl (X _ _ hfn) rfl har rfl (X _ _ hcode) rfl hvs hfile S.top ?_) hmc) hint
  refine ks_loadName_global S.kF S.kS (loadGlobal_builtin (env := eV qual st L fI cda cc) (G.glob.keeps kb) gS (hmb.keeps kb) ((hbt _ (by decide +kernel)).trans (by first | boot_by_name | rfl | kernel_rfl)) ⟨rfl, ?_⟩)
  refine wpAny_loadName_free S.kF S.kC rfl ⟨_, X _ _ hcell, rfl⟩ ?_
  rw [harg]
  refine wpAny_loadName_local S.kF (S.kL _ (List.mem_cons_self ..)) hns hm ?_
  refine ks_wpAny_isType_cls (X _ _ hD1) hD2 ⟨rfl, ?_⟩
  refine ks_wpAny_call_super (X _ _ hD1) hD2 hx rfl (fun c z => nomatch z) (looks_mroIn X T.meC) (fun h1 e1 k1 => ?_)
  have X1 : K.In h1 := X.keeps k1
  have hx1 := k1 _ _ hx
  have hI : Looks (model P w) h1 (isInstance (.ref x) (.type "ValueError")) true := (show Looks (model P w) h1 (typeOf (.ref x)) (.ref C) from fun A Q E s k q => wpAny_typeOf_ref (k _ _ hx1) q).andThen (looks_subIn X1 T.veC)
  have hM : Looks (model P w) h1 (mroOf (.ref C)) cd.mro := (looks_clsIn X1 hcd).andThen .now
  refine kxs_getMethod kxs_ValueError e1 (looks_opaque X1 T.opq) hM rfl X1 hsup hI xC (by decide) ?_
  have e2 : (h1.push (kxs_mw "ValueError.__init__" x)).get? h1.objs.size = some (kxs_mw "ValueError.__init__" x) := Heap.get?_push_size _ rfl
  have k2 : ∀ b o, h1.get? b = some o → (h1.push (kxs_mw "ValueError.__init__" x)).get? b = some o := fun b o e => Heap.get?_push_of_some _ e
  refine kxs_callWith (i := "ValueError.__init__") (x := x) rfl (evalArgs_plain (spliced_cons (Constant_str (pos := p3) (k := kk) (spliced_nil ⟨e2, ?_⟩))))
  refine bound_init T (X1.keeps k2) (k2 _ _ hx1) e2 (by show 1 ≤ sizeLine; rw [sizeLine_eq]; decide) (fun h' t1 k3 e3 => ?_)
  exact hq h' _ t1 (fun b o hb e => k3 b o hb (k2 _ _ (k1 _ _ e))) e3
end
end ErrA

namespace ErrA
open PySem PySem.W PySem.Calls PyProof.Rows PySem.HandSPX
/-- the names of an exception's own dict, the newest first -/
def lk (fs : List (Str × Value)) : Str → Option Value := fun y => fs.lookup y
theorem lk_more (f : Str) (v : Value) (fs : List (Str × Value)) : lk ((f, v) :: fs) = fun y => if y = f then some v else lk fs y := by
  funext y
  unfold lk
  by_cases h : y = f
  · subst h
    rw [if_pos rfl]
    simp [List.lookup]
  · rw [if_neg h]
    have e : (y == f) = false := by simpa using h
    simp [List.lookup, e]
theorem lk_in : ∀ fs : List (Str × Value), Within (lk fs) (fs.map (·.1))
  | [] => fun y h => absurd rfl h
  | (f, v) :: r => fun y h => by
    have h : lk ((f, v) :: r) y ≠ none := h
    rw [lk_more] at h
    have h : (if y = f then some v else lk r y) ≠ none := h
    by_cases e : y = f
    · rw [e]
      exact List.mem_cons_self ..
    · rw [if_neg e] at h
      exact List.mem_cons_of_mem _ (lk_in r y h)
/-- self.f = f, once for each name -/
inductive Sets : List Stmt → List Str → Prop
  | nil : Sets [] []
  | cons {f : Str} {q1 q2 q3 q4 : Pos} {r : List Stmt} {fl : List Str} (h : Sets r fl) : Sets (.Assign [.Attribute (.Name "self" q1) f q2] (.Name f q3) q4 :: r) (f :: fl)
section
variable {P : Program} {w : World} {K : Frag} {mg : Str → Option Value} {base : Heap} {C fI cc cda : Addr} {qual : Str} {st : Stmt} {A : Around} {E : Value → Shared → Prop}
theorem ldE {L : Addr} {m : Str → Option Value} {f : Str} {pos : Pos} {v : Value} {s : Shared} {M : Model} {Q : Value → Shared → Prop} (hk : (L2.defScope st).kind = .function) (hl : (L2.defScope st).names.lookup f = some .local) (hd : (f == ("__debug__" : Str)) = false)
    (hns : s.heap.Ns L m) (hm : m f = some v) (h : Q v s) : wpAny M A (eval (.Name f pos) (eV qual st L fI cda cc)) Q E s := wpAny_Name (wpAny_loadName_local hk hl hns hm h) hd
/-- further fields: the exception has its dict -/
theorem sets_old (T : ErrTxt P K C fI cc cda qual st) {L x t0 dx : Addr} {m : Str → Option Value} (val : Str → Value) (hk : (L2.defScope st).kind = .function) (hself : (L2.defScope st).names.lookup ("self" : Str) = some .local) (hm0 : m "self" = some (.ref x)) (xL : L ≠ dx) :
    ∀ {sts : List Stmt} {fl : List Str}, Sets sts fl → ∀ (fs : List (Str × Value)) (s : Shared) (Q : Flow → Shared → Prop), fs.length + fl.length ≤ 900 → (∀ f ∈ fl, (L2.defScope st).names.lookup f = some .local ∧ (f == ("__debug__" : Str)) = false ∧ m f = some (val f) ∧ findIn K (.ref C) f = some none) →
      K.In s.heap → K.lookup dx = none → s.heap.Ns L m → s.heap.get? x = some { cls := .ref C, dict := some dx, data := .fields #[.ref t0, .none, .none, .none, .bool false, .none] } → x ≠ dx → s.heap.Ns1 dx (lk fs) →
      (∀ h' tk, (∀ b o, b ≠ dx → s.heap.get? b = some o → h'.get? b = some o) → h'.get? x = some { cls := .ref C, dict := some dx, data := .fields #[.ref t0, .none, .none, .none, .bool false, .none] } → h'.Ns1 dx (lk ((fl.map fun f => (f, val f)).reverse ++ fs)) → Q .next { s with heap := h', toks := tk }) →
      wpAny (model P w) A (execs sts (eV qual st L fI cda cc)) Q E s := by
  intro sts fl hs
  induction hs with
  | nil =>
    intro fs s Q _ _ X _ hns hx hxd hd hq
    exact wpAny_execs_nil (hq s.heap s.toks (fun _ _ _ e => e) hx hd)
  | @cons f q1 q2 q3 q4 r fl hs ih =>
    intro fs s Q hl hf X hKd hns hx hxd hd hq
    obtain ⟨cd, hcd, hdct, hmro⟩ := err_cls T
    obtain ⟨f1, f2, f3, f4⟩ := hf f (List.mem_cons_self ..)
    refine wpAny_execs_cons (plainObj_wpAny_Assign_Attribute (ldE hk f1 f2 hns f3 (ldE hk hself (by decide) hns hm0 ?_)) (by rfl))
    have hd' := hd
    obtain ⟨oD, es, ep, hoD, _⟩ := id hd'
    obtain ⟨hp, g, d, t, os⟩ := s
    refine set_plain X (ox := { cls := .ref C, dict := some dx, data := .fields #[.ref t0, .none, .none, .none, .bool false, .none] }) (od := some oD) ⟨hx, rfl, rfl, hoD⟩ T.sa ?_
    refine PySem.OEX.osa_old X hx hd (lk_in fs) (by rw [List.length_map]; have : fs.length + (fl.length + 1) ≤ 900 := hl; omega) hcd hmro hdct f4 (fun h' tk' k hn => ?_)
    have hn' : h'.Ns1 dx (lk ((f, val f) :: fs)) := by rw [lk_more]; exact hn
    have kK : K.In h' := fun b o e => k b o (fun z => by rw [z, hKd] at e; cases e) (X b o e)
    refine ih ((f, val f) :: fs) _ Q (by have : fs.length + (fl.length + 1) ≤ 900 := hl; show fs.length + 1 + fl.length ≤ 900; omega) (fun g' hg' => hf g' (List.mem_cons_of_mem _ hg')) kK hKd ?_ (k _ _ hxd hx) hxd hn' (fun h2 tk2 k2 e2 n2 => ?_)
    · obtain ⟨o, es2, ep2, ho, r2⟩ := hns
      exact ⟨o, es2, ep2, k _ o xL ho, r2⟩
    · refine hq h2 tk2 (fun b o hb e => k2 b o hb (k b o hb e)) e2 ?_
      rw [List.map_cons, List.reverse_cons, List.append_assoc]
      exact n2
end
end ErrA

namespace ErrA
open PySem PySem.W PySem.Calls PyProof.Rows PySem.HandSPX
theorem look_mem {β : Type} {f : Str} {v : β} : ∀ {l : List (Str × β)}, (l.map (·.1)).Nodup → (f, v) ∈ l → l.lookup f = some v
  | [], _, h => nomatch h
  | (g, u) :: r, hn, h => by
    rw [List.map_cons, List.nodup_cons] at hn
    rcases List.mem_cons.mp h with e | e
    · cases e
      simp [List.lookup]
    · have ne : f ≠ g := fun z => hn.1 (by rw [← z]; exact List.mem_map.mpr ⟨_, e, rfl⟩)
      have e2 : (f == g) = false := by simpa using ne
      simp only [List.lookup, e2]
      exact look_mem hn.2 e
theorem zip_fst {α β : Type} : ∀ {xs : List α} {ys : List β}, xs.length = ys.length → (xs.zip ys).map (·.1) = xs
  | [], _, _ => by simp
  | _ :: _, [], h => by simp at h
  | x :: xs, y :: ys, h => by
    rw [List.zip_cons_cons, List.map_cons, zip_fst (by simpa using h)]
theorem zip_look {names : List Str} {us : List Value} (hn : names.Nodup) (hl : names.length = us.length) {f : Str} {v : Value} (h : (f, v) ∈ names.zip us) : (names.zip us).reverse.lookup f = some v := by
  refine look_mem ?_ (List.mem_reverse.mpr h)
  rw [List.map_reverse, zip_fst hl]
  exact List.pairwise_reverse.mpr (List.Pairwise.imp (fun h => Ne.symm h) hn)
/-- the parameter's value -/
def val (names : List Str) (us : List Value) (f : Str) : Value := ((names.zip us).reverse.lookup f).getD .none
theorem val_look {names : List Str} {us : List Value} (hl : names.length = us.length) {f : Str} (h : f ∈ names) (hn : names.Nodup) : (names.zip us).reverse.lookup f = some (val names us f) := by
  obtain ⟨p, hp, e⟩ : ∃ p ∈ names.zip us, p.1 = f := by
    have h2 : f ∈ (names.zip us).map (·.1) := by rw [zip_fst hl]; exact h
    obtain ⟨p, hp, e⟩ := List.mem_map.mp h2
    exact ⟨p, hp, e⟩
  obtain ⟨g, v⟩ := p
  cases e
  unfold val
  rw [zip_look hn hl hp]
  rfl
/-- the fields that are left, the newest first -/
def flds (names : List Str) (us : List Value) (fl : List Str) : List (Str × Value) := (fl.map fun f => (f, val names us f)).reverse
section
variable {P : Program} {w : World} {K : Frag} {mg : Str → Option Value} {base : Heap} {C fI cc cda : Addr} {qual : Str} {st : Stmt} {A : Around} {E : Value → Shared → Prop} {R : Result → Shared → Prop}
/-- the text of such an __init__ -/
structure ErrBody (P : Program) (st : Stmt) (f : Str) (fl : List Str) : Prop where
  ex : ∃ (p0 p1 p2 p3 p4 p5 q1 q2 q3 q4 : Pos) (msg : Str) (kk : Nat) (r : List Stmt), ErrScope P st (f :: fl) p0 p1 p2 p3 p4 msg kk ∧ Sets r fl ∧
    L2.defBody st = .Expr (.Call (.Attribute (.Call (.Name "super" p0) [] [] p1) "__init__" p2) [.Constant (.str msg) kk p3] [] p4) p5 :: .Assign [.Attribute (.Name "self" q1) f q2] (.Name f q3) q4 :: r
  nd : (("self" : Str) :: f :: fl).Nodup
  bind : ∀ (qual : Str) (kV doc pm : Value) (an : Option Addr) (ct : Value) (cda cc : Addr) (us : List Value), us.length = fl.length + 2 →
    bindArgs (ksFn "__init__" qual (L2.defArgs st) (L2.defBody st) (L2.defScope st) .none kV doc pm an (.ref cda) ct cc) ⟨us, []⟩ = pure ((("self" : Str) :: f :: fl).zip us)
  few : fl.length ≤ 100
/-- what such an __init__ leaves of a fresh exception at x -/
structure ErrEnd (h h' : Heap) (x C dx : Addr) (fs : List (Str × Value)) : Prop where
  keep : ∀ b o, b ≠ x → h.get? b = some o → h'.get? b = some o
  obj : ∃ t0 : Addr, h'.get? x = some { cls := .ref C, dict := some dx, data := .fields #[.ref t0, .none, .none, .none, .bool false, .none] }
  dbig : h.objs.size ≤ dx
  dne : dx ≠ x
  ns : h'.Ns1 dx (lk fs)
theorem err_init {f : Str} {fl : List Str} (T : ErrTxt P K C fI cc cda qual st) (B : ErrBody P st f fl) (G : Gnd K mg base) {x t0 : Addr} {vs : List Value} {s : Shared} (noF : ∀ g ∈ f :: fl, findIn K (.ref C) g = some none)
    (kb : ∀ b o, base.get? b = some o → s.heap.get? b = some o) (hx : s.heap.get? x = some (excO C t0)) (hnx : K.lookup x = none) (hroom : A.depth < recursionLimit) (hl : vs.length = fl.length + 1)
    (hq : ∀ h' tk dx, ErrEnd s.heap h' x C dx (flds (("self" : Str) :: f :: fl) (.ref x :: vs) (f :: fl)) → R (.ok (.ret .none)) { s with heap := h', toks := tk }) :
    codeAny (model P w) A (.call (.ref fI) ⟨.ref x :: vs, []⟩) R s := by
  obtain ⟨p0, p1, p2, p3, p4, p5, q1, q2, q3, q4, msg, kk, r, S, hs, hbody⟩ := B.ex
  obtain ⟨oc, od, kV, doc, pm, an, ct, osl, hfn⟩ := id T.fn
  obtain ⟨cd, hcd, hdct, hmro⟩ := err_cls T
  have X : K.In s.heap := G.kin.keeps kb
  have hus : (("self" : Str) :: f :: fl).length = (Value.ref x :: vs).length := by simp [hl]
  have look : ∀ g ∈ ("self" : Str) :: f :: fl, ((("self" : Str) :: f :: fl).zip (Value.ref x :: vs)).reverse.lookup g = some (val (("self" : Str) :: f :: fl) (.ref x :: vs) g) := fun g hg => val_look hus hg B.nd
  have hself : ((("self" : Str) :: f :: fl).zip (Value.ref x :: vs)).reverse.lookup ("self" : Str) = some (.ref x) := zip_look B.nd hus (by rw [List.zip_cons_cons]; exact List.mem_cons_self ..)
  refine ks_codeAny_call_defAt (fd := ksFn "__init__" qual (L2.defArgs st) (L2.defBody st) (L2.defScope st) .none kV doc pm an (.ref cda) ct cc) (body := L2.defBody st) (binds := (("self" : Str) :: f :: fl).zip (Value.ref x :: vs)) hroom (X _ _ hfn) rfl (G.lim.keeps kb) (codeRec_of X T.rec_) rfl
    (BindsTo.of_eq (B.bind _ _ _ _ _ _ _ _ _ (by simp [hl]))) S.kN (fun y hy => ?_) (fun h1 hns k1 => ?_) S.kO S.kG S.kF
  · obtain ⟨n, v⟩ := y
    exact S.kL n (List.of_mem_zip hy).1
  have hxL : s.heap.objs.size ≠ x := Nat.ne_of_gt (Heap.lt_size hx)
  show _root_.PySem.wpAt _ _ (.func (L2.defBody st) (eV qual st s.heap.objs.size fI cda cc)) (execs (L2.defBody st) (eV qual st s.heap.objs.size fI cda cc)) _ _ _
  rw [hbody]
  have L1 : s.heap.objs.size < h1.objs.size := hns.lt
  refine ks_wpAt_execs_cons (super_line T S G (fun b o e => k1 b o (kb b o e)) hns hself (k1 _ _ hx) (fun h2 tk2 t2 k2 e2 => wpAt_of_wpAny ?_))
  have keep2 : ∀ b o, b ≠ x → s.heap.get? b = some o → h2.get? b = some o := fun b o hb e => k2 b o hb (k1 b o e)
  have hns2 : h2.Ns s.heap.objs.size (fun y => ((("self" : Str) :: f :: fl).zip (Value.ref x :: vs)).reverse.lookup y) := by
    obtain ⟨o, es, ep, ho, hr⟩ := hns
    exact ⟨o, es, ep, k2 _ o hxL ho, hr⟩
  have X2 : K.In h2 := fun b o e => keep2 b o (fun z => by rw [z, hnx] at e; cases e) (X b o e)
  refine wpAny_execs_cons (plainObj_wpAny_Assign_Attribute (ldE S.kF (S.kL _ (by simp)) (S.dbg _ (by simp)) hns2 (look f (by simp)) (ldE S.kF (S.kL _ (by simp)) (by decide) hns2 hself ?_)) (by rfl))
  refine set_plain X2 (ox := excO C t2) (od := none) ⟨e2, rfl, rfl, trivial⟩ T.sa ?_
  refine exc_osa X2 e2 hcd hmro hdct (noF f (by simp)) (fun h3 tk3 dx k3 dn dne hx3 hn3 => ?_)
  have L2' : s.heap.objs.size < h2.objs.size := hns2.lt
  have dL : s.heap.objs.size ≠ dx := Nat.ne_of_lt (Nat.lt_of_lt_of_le L2' dn)
  have hK3 : K.In h3 := fun b o e => k3 b o (fun z => by rw [z, hnx] at e; cases e) (X2 b o e)
  have hKd : K.lookup dx = none := by
    cases e : K.lookup dx with
    | none => rfl
    | some o => exact absurd (Nat.lt_of_lt_of_le (Heap.lt_size (X2 _ _ e)) dn) (Nat.lt_irrefl _)
  have hns3 : h3.Ns s.heap.objs.size (fun y => ((("self" : Str) :: f :: fl).zip (Value.ref x :: vs)).reverse.lookup y) := by
    obtain ⟨o, es, ep, ho, hr⟩ := hns2
    exact ⟨o, es, ep, k3 _ o hxL ho, hr⟩
  have hn3' : h3.Ns1 dx (lk [(f, val (("self" : Str) :: f :: fl) (.ref x :: vs) f)]) := by rw [lk_more]; exact hn3
  refine sets_old T (val (("self" : Str) :: f :: fl) (.ref x :: vs)) S.kF (S.kL _ (by simp)) hself dL hs [(f, _)] _ _ (by have := B.few; show 1 + fl.length ≤ 900; omega)
    (fun g hg => ⟨S.kL g (by simp [hg]), S.dbg g (by simp [hg]), look g (by simp [hg]), noF g (by simp [hg])⟩) hK3 hKd hns3 hx3 (Ne.symm dne) hn3' (fun h4 tk4 k4 e4 n4 => ?_)
  refine hq h4 tk4 dx ⟨fun b o hb e => ?_, ⟨_, e4⟩, Nat.le_of_lt (Nat.lt_of_lt_of_le L2' dn), dne, ?_⟩
  · have bs : b < s.heap.objs.size := Heap.lt_size e
    exact k4 b o (fun z => absurd (Nat.lt_of_lt_of_le (Nat.lt_trans bs L2') dn) (by rw [z]; exact Nat.lt_irrefl _)) (k3 b o hb (keep2 b o hb e))
  · unfold flds
    rw [List.map_cons, List.reverse_cons]
    exact n4
end
end ErrA

namespace ErrA
open PySem PySem.W PySem.Calls PyProof.Rows PySem.HandSPX
theorem val_zip {names : List Str} {us : List Value} : ∀ {fl : List Str} {vs : List Value}, fl.length = vs.length → (∀ p ∈ fl.zip vs, val names us p.1 = p.2) → (fl.map fun f => (f, val names us f)) = fl.zip vs
  | [], _, _, _ => by simp
  | _ :: _, [], h, _ => by simp at h
  | f :: fl, v :: vs, h, hv => by
    rw [List.map_cons, List.zip_cons_cons, val_zip (by simpa using h) (fun p hp => hv p (by rw [List.zip_cons_cons]; exact List.mem_cons_of_mem _ hp)), hv (f, v) (by rw [List.zip_cons_cons]; exact List.mem_cons_self ..)]
theorem flds_zip {n0 : Str} {x : Value} {fl : List Str} {vs : List Value} (hn : (n0 :: fl).Nodup) (hl : fl.length = vs.length) : flds (n0 :: fl) (x :: vs) fl = (fl.zip vs).reverse := by
  unfold flds
  rw [val_zip hl fun p hp => ?_]
  obtain ⟨f, v⟩ := p
  unfold val
  rw [zip_look (v := v) hn (by simp [hl]) (by rw [List.zip_cons_cons]; exact List.mem_cons_of_mem _ hp)]
  rfl
section
variable {P : Program} {w : World} {K : Frag} {mg : Str → Option Value} {base : Heap} {C fI cc cda : Addr} {qual : Str} {st : Stmt} {A : Around} {E : Value → Shared → Prop} {R : Result → Shared → Prop}
/-- a made exception -/
structure ErrMade (h h' : Heap) (e C d : Addr) (fs : List (Str × Value)) : Prop where
  keep : ∀ b o, h.get? b = some o → h'.get? b = some o
  new : h.objs.size ≤ e
  obj : ∃ t0 : Addr, h'.get? e = some { cls := .ref C, dict := some d, data := .fields #[.ref t0, .none, .none, .none, .bool false, .none] }
  dbig : h.objs.size ≤ d
  dne : d ≠ e
  ns : h'.Ns1 d (lk fs)
theorem err_made {f : Str} {fl : List Str} (T : ErrTxt P K C fI cc cda qual st) (B : ErrBody P st f fl) (G : Gnd K mg base) {vs : List Value} {s : Shared} (noF : ∀ g ∈ f :: fl, findIn K (.ref C) g = some none)
    (kb : ∀ b o, base.get? b = some o → s.heap.get? b = some o) (hroom : A.depth + 1 < recursionLimit) (hl : vs.length = fl.length + 1)
    (hq : ∀ h' tk e d, ErrMade s.heap h' e C d (((f :: fl).zip vs).reverse) → R (.ok (.ret (.ref e))) { s with heap := h', toks := tk }) :
    codeAny (model P w) A (.call (.ref C) ⟨vs, []⟩) R s := by
  obtain ⟨nm, q, N, bs, bm, sn, sub, ab, col, dd, k0, k1, k2, k3, k5, hC, hbm⟩ := T.cls
  have X : K.In s.heap := G.kin.keeps kb
  obtain ⟨hp, g, dr, tk, os⟩ := s
  have k : ∀ b o, hp.get? b = some o → ((hp.push (kdv_tup vs)).push (excO C hp.objs.size)).get? b = some o := fun b o e => Heap.get?_push_of_some _ (Heap.get?_push_of_some _ e)
  have hget : ((hp.push (kdv_tup vs)).push (excO C hp.objs.size)).get? (hp.objs.size + 1) = some (excO C hp.objs.size) := by heap_get
  have hnx : K.lookup (hp.objs.size + 1) = none := by
    cases e : K.lookup (hp.objs.size + 1) with
    | none => rfl
    | some o =>
      have z : hp.get? (hp.objs.size + 1) = some o := X _ _ e
      exact absurd (Nat.lt_of_succ_lt (Heap.lt_size z)) (Nat.lt_irrefl _)
  have hsz : vs.length ≤ sizeLine := by
    rw [hl, sizeLine_eq]
    have := B.few
    omega
  refine call_own PySem.F.excBase_ValueError (fun Y => refsVE_contains Y bm hbm) (X _ _ hC) (looks_findIn X T.iC) (fun self => bind_fn X self T.tI) hsz ?_
  refine err_init (s := ⟨(hp.push (kdv_tup vs)).push (excO C hp.objs.size), g, dr, tk, os⟩) T B G noF (fun b o e => k b o (kb b o e)) hget hnx ?_ hl fun h' tk' dx ⟨k', hx, dn, dne, hns⟩ => ?_
  · show A.depth + 1 < recursionLimit
    exact hroom
  · rw [flds_zip B.nd (by simp [hl])] at hns
    have old : ∀ b o, hp.get? b = some o → h'.get? b = some o := fun b o e => k' b o (Nat.ne_of_lt (Nat.lt_succ_of_lt (Heap.lt_size e))) (k b o e)
    have z : hp.objs.size + 1 + 1 ≤ dx := by
      first
        | (simpa only [Heap.size_push] using dn)
        | exact dn
    exact ⟨rfl, hq h' tk' (hp.objs.size + 1) dx ⟨old, Nat.le_succ _, hx, Nat.le_trans (Nat.le_trans (Nat.le_succ _) (Nat.le_succ _)) z, dne, hns⟩⟩
end
end ErrA

namespace L2
open PySem PySem.Spec PyProof.Rows
theorem paired_snoc_k {α β : Type} {F : α → β → Prop} {a : α} {b : β} (r : F a b) : ∀ {xs : List α} {ys : List β}, Paired F xs ys → Paired F (xs ++ [a]) (ys ++ [b])
  | _, _, .nil => .cons r .nil
  | _, _, .cons q t => .cons q (paired_snoc_k r t)
theorem paired_rev_k {α β : Type} {F : α → β → Prop} : ∀ {xs : List α} {ys : List β}, Paired F xs ys → Paired F xs.reverse ys.reverse
  | _, _, .nil => .nil
  | _, _, .cons q t => by
    rw [List.reverse_cons, List.reverse_cons]
    exact paired_snoc_k q (paired_rev_k t)
theorem kv_zip : ∀ (fl : List Str) {vs : List V} {us : List Value}, Vals vs us → KV (fl.zip vs) (fl.zip us)
  | [], _, _, _ => by simp; exact .nil
  | _ :: _, _, _, .nil => by simp; exact .nil
  | f :: fl, _, _, .cons r t => by
    rw [List.zip_cons_cons, List.zip_cons_cons]
    exact .cons ⟨rfl, r⟩ (kv_zip fl t)
theorem kv_look (g : Str) : ∀ {l : List (Str × V)} {m : List (Str × Value)}, KV l m → RelO (l.lookup g) (ErrA.lk m g)
  | _, _, .nil => True.intro
  | (f, y) :: l, (f', u) :: m, .cons ⟨e, r⟩ t => by
    have e : f = f' := e
    subst e
    rw [ErrA.lk_more]
    have ih := kv_look g t
    by_cases h : g = f
    · subst h
      simp only [List.lookup, beq_self_eq_true]
      rw [if_pos True.intro]
      exact r
    · have e2 : (g == f) = false := by simpa using h
      simp only [List.lookup, e2]
      rw [if_neg h]
      exact ih
section
variable {X : Cx} {C fI cc cda : Addr} {qual : Str} {st : Stmt} {f : Str} {fl : List Str}
/-- C(e, ..): behind the arguments, for every new d: the error with its own dict at d -/
def tMkErr (C : Addr) (f : Str) (fl : List Str) (ta : TA) : St → Hp → XK → Prop := fun σ H Q => ta σ H fun vs H1 => vs.length = fl.length + 1 ∧ ∀ d, H1 d = none → Q (.ref C) (some d) (upd H1 d (.xd ((f :: fl).zip vs).reverse))
theorem pmk_err {a : Expr} {as : List Expr} {ta : TA} {n : Str} {p pos : Pos} {k : Nat} (T : ErrA.ErrTxt X.prog X.K C fI cc cda qual st) (B : ErrA.ErrBody X.prog st f fl) (noF : ∀ g ∈ f :: fl, PySem.W.findIn X.K (.ref C) g = some none) (hr : Room k X.A) (hm : X.mg n = some (.ref C)) (ha : PA X (a :: as) ta) (hg : Gl X n := by rfl)
    (hdb : (n == ("__debug__" : Str)) = false := by decide)
    (he : starEach (a :: as) X.env = (false, eval a X.env) :: starEach as X.env := by rfl) (hpl : (backTo pos (starEach as X.env)).any (·.1) = false := by rfl) :
    PMk X (.Call (.Name n p) (a :: as) [] pos) (tMkErr C f fl ta) := by
  intro pins s σ H Q I h
  refine wpAny_Call_Name_kw (ld_glob I hg hm ?_ hdb)
  refine PySem.W.callWith_K (h₀ := X.base) I.ok.mod.kin T.kC (thn (ha.run pos pins s σ H _ I h) fun us s1 hh => ?_) he hpl
  obtain ⟨vs, H1, I1, r1, hl, q1⟩ := hh
  refine ⟨I1.kIn, ?_⟩
  show wpAny _ _ (call (.ref C) us) _ _ _
  have hbk := I1.bk
  have hlu : us.length = fl.length + 1 := by rw [← Paired.length r1]; exact hl
  obtain ⟨hp, g, dr, tk, os⟩ := s1
  refine wpAny_call (ErrA.err_made T B ⟨I1.mod.kin, I1.mod.glob, I1.mod.blt, I1.mod.nolimit⟩ noF hbk (by have := hr.dp; omega) hlu fun h' tk' e d M => ?_)
  show MkP X pins σ Q (.ref e) ⟨h', g, dr, tk', os⟩
  obtain ⟨t0, hoe⟩ := M.obj
  have hns := M.ns
  obtain ⟨G', g1, g2⟩ := restrict h' fun b => decide (b ≠ e)
  have gk : ∀ b, b ≠ e → G'.get? b = h'.get? b := fun b hb => g1 b (decide_eq_true hb)
  have ge : G'.get? e = none := g2 e (by simp)
  have old : ∀ b o, hp.get? b = some o → G'.get? b = some o := fun b o q => (gk b (Nat.ne_of_lt (Nat.lt_of_lt_of_le (Heap.lt_size q) M.new))).trans (M.keep b o q)
  have ob : ObjOk X.prog X.w (upd H1 d (.xd ((f :: fl).zip vs).reverse)) G' d (.xd ((f :: fl).zip vs).reverse) :=
    ⟨_, hns.at (fun o q => (gk d M.dne).trans q), fun g => kv_look g (paired_rev_k (kv_zip (f :: fl) r1))⟩
  have J : Inv X pins σ (upd H1 d (.xd ((f :: fl).zip vs).reverse)) ⟨G', g, dr, tk', os⟩ := I1.laid (t' := tk') old M.dbig ob
  refine ⟨e, _, _, ⟨G', g, dr, tk', os⟩, _, .ref C, some d, rfl, J, fun b o q => ?_, ge, hoe, ⟨rfl, rfl⟩, rfl, rfl, ?_, rfl, I1.bare, raises_own T.exC T.tyC, q1 d (I1.hok.fresh M.dbig)⟩
  · by_cases hb : b = e
    · have q' : G'.get? b = some o := q
      rw [hb, ge] at q'; cases q'
    · exact (gk b hb).symm.trans q
  · rw [upd_ne (Ne.symm M.dne)]
    exact I1.hok.fresh M.new
/-- raise C(e, ..) -/
def tRaiseErr (C : Addr) (f : Str) (fl : List Str) (W : WX) (ta : TA) : TS := fun _ σ H => tMkErr C f fl ta σ H fun cls d H' => W cls d σ H'
theorem ps_raiseErr {a : Expr} {as : List Expr} {ta : TA} {W : WX} {n : Str} {p pos pos2 : Pos} {k : Nat} (hc : X.calm = true) (T : ErrA.ErrTxt X.prog X.K C fI cc cda qual st) (B : ErrA.ErrBody X.prog st f fl) (noF : ∀ g ∈ f :: fl, PySem.W.findIn X.K (.ref C) g = some none) (hr : Room k X.A) (hm : X.mg n = some (.ref C)) (tk : Takes X W) (ha : PA X (a :: as) ta) (hg : Gl X n := by rfl)
    (hdb : (n == ("__debug__" : Str)) = false := by decide)
    (he : starEach (a :: as) X.env = (false, eval a X.env) :: starEach as X.env := by rfl) (hpl : (backTo pos (starEach as X.env)).any (·.1) = false := by rfl) :
    PS X (.Raise (some (.Call (.Name n p) (a :: as) [] pos)) none pos2) (tRaiseErr C f fl W ta) := ps_raise hc tk (pmk_err T B noF hr hm ha hg hdb he hpl)
end
end L2

set_option Elab.async false
set_option linter.all false
set_option maxRecDepth 100000
set_option maxHeartbeats 2000000
/-! Part B: several clauses «except C as n» -/
namespace L2
open PySem PySem.Spec PyProof.Rows
/-- a clause's class and its suite's reading -/
abbrev Cl := Value × (Addr → Value → Option Addr → TS)
/-- the ends of a suite: the name in slot i is gone behind it -/
def goneD (i : Nat) (D : Ends) : Ends := { nx := fun τ G => D.nx (τ.set i none) G, rt := D.rt, bk := fun τ G => D.bk (τ.set i none) G, ct := fun τ G => D.ct (τ.set i none) G }
/-- what the clauses wish, one behind the other; all of them store in slot i -/
def wClauses (K : PySem.W.Frag) (i : Nat) (Wo : WX) (D : Ends) : List Cl → WX
  | [] => Wo
  | (c, ts) :: more => fun cls d τ G => ∃ yes, PySem.W.exmOne K cls c = some yes ∧ (yes = true → ∀ e, G e = none → ts e cls d (goneD i D) (τ.set i (some (.ref e))) G) ∧ (yes = false → wClauses K i Wo D more cls d τ G)
inductive Clauses (X : Cx) (n : Str) : List ExceptHandler → List Cl → Prop
  | nil : Clauses X n [] []
  | cons {x : Str} {c : Value} {ts : Addr → Value → Option Addr → TS} {s0 : Stmt} {ss : List Stmt} {pa pb : Pos} {hs : List ExceptHandler} {l : List Cl} (nm : Names X x c)
      (su : ∀ (e : Addr) (oe : Obj) (cls : Value) (d : Option Addr) (pn : List (Addr × Obj)), Zc cls d oe → (∃ vs, oe.data = .fields vs) → PSs (X.suite e ((e, oe) :: pn)) (s0 :: ss) (ts e cls d)) (more : Clauses X n hs l) :
      Clauses X n (.ExceptHandler (some (.Name x pa)) (some n) (s0 :: ss) pb :: hs) ((c, ts) :: l)
section
variable {X : Cx} {n : Str} {i : Nat} {body : List Stmt} {hd : ExceptHandler} {hs : List ExceptHandler} {l : List Cl} {pos : Pos} {tb : WX → TS} {Wo : WX}
/-- an end of the suite: the name goes, the frame is ours again -/
theorem suite_end {pins : List (Addr × Obj)} {D : Ends} {ok : X.Ok} {e : Addr} {q : Addr × Obj} {fl : Flow} {s6 : Shared} {pb : Pos} (hN : X.N.Nodup) (hi : X.N[i]? = some n) (hln : X.env.kindOf n = some .local)
    (h : SP (X.suite e (q :: (X.pn ++ pins))) [] (goneD i D) fl s6) :
    wpAny (model X.prog X.w) X.A (do bindName X.env n .none; unbindBehindTheSuite X.env n pb) (fun _ s7 => SP X pins D fl s7) X.xe s6 := by
  cases fl with
  | ret u =>
    obtain ⟨v, τ, G, J, r, z⟩ := h
    refine gone_ok (J.unsuite ok) hN hi hln fun s7 J7 => ?_
    exact ⟨v, _, _, J7, r, z⟩
  | next =>
    obtain ⟨τ, G, J, z⟩ := h
    refine gone_ok (J.unsuite ok) hN hi hln fun s7 J7 => ?_
    exact ⟨_, _, J7, z⟩
  | brk =>
    obtain ⟨τ, G, J, z⟩ := h
    refine gone_ok (J.unsuite ok) hN hi hln fun s7 J7 => ?_
    exact ⟨_, _, J7, z⟩
  | cont =>
    obtain ⟨τ, G, J, z⟩ := h
    refine gone_ok (J.unsuite ok) hN hi hln fun s7 J7 => ?_
    exact ⟨_, _, J7, z⟩
theorem ps_try_clauses (hst : X.stack = X.env :: X.outer) (hfr : X.env.frame = some X.env.locals) (hN : X.N.Nodup) (hi : X.N[i]? = some n) (hln : X.env.kindOf n = some .local) (tk : Takes X Wo)
    (hb : ∀ (W : WX) (pn : List (Addr × Obj)) (xe : Value → Shared → Prop), Takes (X.tr pn xe) W → PassesOwn (model X.prog X.w) X.A X.env xe → PSs (X.tr pn xe) body (tb W))
    (hh : Clauses X n (hd :: hs) l) : PS X (.Try body (hd :: hs) [] [] pos) (fun D σ H => tb (wClauses X.K i Wo D l) D σ H) := by
  constructor
  intro pins s σ H D I start
  have ok := I.ok
  have frs_ : X.A.frames = some (X.env :: X.outer) := ok.frames.trans (by rw [hst])
  refine wpAny_Try_except ?_
  have run := (hb (wClauses X.K i Wo D l) (X.pn ++ pins) (fun ev t1 => wpAny (model X.prog X.w) X.A (noteFrame ev X.env) (fun _ t2 => wpAny (model X.prog X.w) X.A (setFlight ev none)
    (fun _ t3 => wpAny (model X.prog X.w) X.A (handleBy ev X.env (hd :: hs)) (SP X pins D) X.xe t3) X.xe t2) X.xe t1) (fun u t xx => ?_) PassesOwn.looking).run [] s σ H D (I.toTry _) start
  · refine wpAny_mono run (fun f t z => ?_) (fun ev t z => z)
    cases f with
    | ret u =>
      obtain ⟨v, τ, G, J, r, q⟩ := z
      exact ⟨v, τ, G, J.ofTry ok, r, q⟩
    | next =>
      obtain ⟨τ, G, J, q⟩ := z
      exact wpAny_execs_nil ⟨τ, G, J.ofTry ok, q⟩
    | brk =>
      obtain ⟨τ, G, J, q⟩ := z
      exact ⟨τ, G, J.ofTry ok, q⟩
    | cont =>
      obtain ⟨τ, G, J, q⟩ := z
      exact ⟨τ, G, J.ofTry ok, q⟩
  obtain ⟨e, B, t0, pins0, τ, G, cls, d, rfl, J0, ground, up, sky, ne, eos, bare, wish⟩ := xx
  have J : Inv X pins τ G t0 := J0.ofTry ok
  have sky2 : Sky B (X.env :: X.outer) e (Zc cls d) X.env.locals t.heap := by
    rw [← hst]
    exact sky
  show wpAny (model X.prog X.w) X.A (noteFrame (.ref e) X.env) _ _ _
  refine Sky.land Zc.steady frs_ hfr sky2 fun g3 fly3 up3 => ?_
  have up03 := up.trans up3
  have J3 : Inv X pins τ G { t with heap := g3 } := J.landed ground fly3.1 up03 eos bare
  obtain ⟨o3, v3, get3, z3, d3⟩ := fly3.there
  have out : e ∉ frs (X.env :: X.outer) := fun m => by
    obtain ⟨_, o', e', no⟩ := fly3.2.2.1.mem m
    rw [get3] at e'
    cases e'
    exact no _ d3
  have outL : e ≠ X.env.locals := fun z => out (List.mem_filterMap.mpr ⟨X.env, List.mem_cons_self, by rw [hfr, z]⟩)
  have outF : e ∉ X.fs := fun m => by
    obtain ⟨env', he', q⟩ := List.mem_filterMap.mp m
    exact out (List.mem_filterMap.mpr ⟨env', List.mem_cons_of_mem _ he', q⟩)
  have S3 := J3.suite get3 d3 ne outL outF
  have main : ∀ {hs' : List ExceptHandler} {l' : List Cl}, Clauses X n hs' l' → wClauses X.K i Wo D l' cls d τ G → wpAny (model X.prog X.w) X.A (handleBy (.ref e) X.env hs') (SP X pins D) X.xe { t with heap := g3 } := by
    intro hs' l' c
    induction c with
    | nil =>
      intro w
      refine wpAny_handleBy_nil ?_
      obtain ⟨_, _, _, oe, vs, T, oT, ts', he, _, hdt, h1, _⟩ := id fly3
      have fin : wpAny (model X.prog X.w) X.A (setFlight (.ref e) X.env.frame) (fun _ t4 => wpAny (model X.prog X.w) X.A (throw (.ref e) : Sem Flow) (SP X pins D) X.xe t4) X.xe { t with heap := g3 } := by
        rw [hfr]
        refine HandSPX.setFlight_upZ fly3 fun g4 held4 up4 => wpAny_throw (tk _ _ ⟨e, B, t0, pins, τ, G, cls, d, rfl, J, ground, up03.trans up4, .inr (.inr ?_), ne, eos, bare, w⟩)
        rw [hst]
        exact held4
      unfold PySem.passOn
      refine wpAny_bind (wpAny_field he hdt h1 ?_)
      have notNone : ¬ ((Value.ref T == Value.none) = true) := by simp
      rw [if_neg notNone]
      first
        | exact wpAny_bind fin
        | exact wpAny_bind (wpAny_pure (wpAny_bind fin))
    | @cons x c ts s0 ss pa pb hs2 l2 nm su more ih =>
      intro w
      obtain ⟨yes, hy, w1, w0⟩ := w
      refine wpAny_handleBy_cons (codeAny_handlers_test ?_) (by intro q; cases q)
      have ty : PySem.W.Looks (model X.prog X.w) g3 (typeOf (.ref e)) cls := fun A Q E s k q => wpAny_typeOf_ref (k _ _ get3) (by rw [z3.1]; exact q)
      have mt := PySem.W.exm_one (M := model X.prog X.w) (J3.kIn) ty hy
      have named : ∀ {Q : Value → Shared → Prop} {E : Value → Shared → Prop}, Q c { t with heap := g3 } → wpAny (model X.prog X.w) (X.A.mark (some (.ref e))) (eval (.Name x pa) X.env) Q E { t with heap := g3 } := by
        intro Q E q
        obtain ⟨hg, hdbg, inMod | ⟨notIn, isB, notName⟩⟩ := nm
        · exact ld_glob (X := X.suite e ((e, o3) :: (X.pn ++ pins))) S3 hg inMod q hdbg
        · exact ld_blt (X := X.suite e ((e, o3) :: (X.pn ++ pins))) S3 hg notIn isB q notName hdbg
      refine named (mt.here ?_)
      cases yes with
      | false => exact ih (w0 rfl)
      | true =>
        refine codeAny_handlers_suite_as (HandSPX.lands_againZ fly3 fun g4 fly4 up4 => ?_)
        have J4 : Inv X pins τ G { t with heap := g4 } := J.landed ground fly4.1 (up03.trans up4) eos bare
        obtain ⟨o4, v4, get4, z4, d4⟩ := fly4.there
        refine store_ok (X := X.suite e ((e, o4) :: (X.pn ++ pins))) (v := .ref e) (J4.suite get4 d4 ne outL outF) hN hi (.inl hln) rfl (fun s5 S5 => ?_) (.inr hln)
        refine wpAny_mono ((su e o4 cls d (X.pn ++ pins) z4 ⟨_, d4⟩).run [] s5 _ G _ S5 (w1 rfl e ne)) (fun fl s6 z => ?_) (fun _ _ z => False.elim z)
        have fin := suite_end (ok := ok) (pb := pb) hN hi hln z
        cases fl <;> exact fin
  exact main hh wish
end
end L2

set_option Elab.async false
set_option linter.all false
set_option maxRecDepth 100000
set_option maxHeartbeats 2000000
/-! Part C: a def that gets the handled exception, called in an except suite; isinstance of it -/
namespace L2
open PySem PySem.Spec PyProof.Rows
/-- a promise that speaks of the handled exception: its address, its class, its own dict -/
abbrev SpP := Addr → Value → Option Addr → Sp
structure FnPin (P : Program) (w : World) (K : PySem.W.Frag) (mg : Str → Option Value) (base : Heap) (k : Nat) (f : Addr) (fd : FuncData) (ps : List Str) (sp : SpP) : Prop where
  len : ∀ a cls d vs H Q E, sp a cls d vs H Q E → vs.length = ps.length
  run : ∀ (A : Around) (outer : List Env) (s : Shared) (H : Hp) (args : Args) (us : List Value) (vs : List V) (Q : VK) (E : XK) (p : Addr × Obj) (cls : Value) (d : Option Addr), L2H.RoomH k A → L2H.PinOk outer H s p → Zc cls d p.2 → (∃ xs, p.2.data = .fields xs) → Env0 P w K mg base A outer s H → BindsTo s fd args (ps.zip us) → Vals vs us → sp p.1 cls d vs H Q E →
    codeAny (model P w) A (.call (.ref f) args) (CR CX0 outer P w H s Q E) s
section
variable {P : Program} {w : World} {K : PySem.W.Frag} {mg : Str → Option Value} {base : Heap}
theorem Fun.okPin {x qual : Str} {st : Stmt} {f : Addr} {fd : FuncData} {N ps : List Str} {k : Nat} {sp : SpP} (F : Fun K x qual st f fd) (S : FnScope N ps (defScope st)) (len : ∀ a cls d vs H Q E, sp a cls d vs H Q E → vs.length = ps.length)
    (hbody : ∀ (cdv : Value) (A : Around) (outer : List Env) (s : Shared) (H : Hp) (vs : List V) (Q : VK) (E : XK) (p : Addr × Obj) (cls : Value) (d : Option Addr), Zc cls d p.2 → (∃ xs, p.2.data = .fields xs) → L2H.RoomH k (A.deeper (envOfC qual (defScope st) s.heap.objs.size f cdv)) → sp p.1 cls d vs H Q E →
      ∃ t, PSs (L2H.cxH CX0 P w K mg base N qual (defScope st) f cdv A outer s H E p) (defBody st) t ∧ t { nx := fun _ G => Q .non G, rt := Q } (start N vs) H) : FnPin P w K mg base (k + 1) f fd ps sp := by
  obtain ⟨oc, od, kV, doc, pm, an, cdv, ct, osl, rfl, lk, hcd⟩ := F.ex
  refine ⟨len, fun A outer s H args us vs Q E p cls d room pin hz hf e0 hb rel want => ?_⟩
  have same := len _ _ _ _ _ _ _ want
  have base_in : ∀ b o, base.get? b = some o → s.heap.get? b = some o := fun b o e => (e0.bs b o e).1
  have KX : K.In s.heap := e0.mod.kin.keeps base_in
  have kinds : ∀ y ∈ ps.zip us, (defScope st).names.lookup y.1 = some .local ∨ ((defScope st).names.lookup y.1 = some .cell ∧ ((cellsFrom (s.heap.objs.size + 1) (defScope st).names []).lookup y.1).isSome = true) := by
    intro y hy
    obtain ⟨nm, v⟩ := y
    rcases S.par nm (List.of_mem_zip hy).1 with q | q
    · exact Or.inl q
    · exact Or.inr ⟨q, PySem.W.cellsFrom_some _ _ _ (Or.inl q)⟩
  refine codeAny_call_function room.depth (KX _ _ lk) rfl S.co S.gen rfl (PySem.W.codeRec_of KX hcd) (hb _ _ _ _ ?_)
  refine wpAny_newFunctionEnv_cells S.kind kinds fun env he s1 entered => ?_
  subst he
  refine ⟨(e0.mod.nolimit.keeps base_in).keeps entered.toInCall.keep, codeAny_func ?_⟩
  obtain ⟨t, body, reads⟩ := hbody cdv A outer s H vs Q E p cls d hz hf (room.deeper _) want
  have I : Inv (L2H.cxH CX0 P w K mg base N qual (defScope st) f cdv A outer s H E p) [] (start N vs) H s1 := L2H.inv_startH S pin e0 same rel entered
  refine wpAny_mono (body.run [] s1 (start N vs) H _ I reads) (fun fl s' z => ?_) fun _ _ z => z
  cases fl with
  | ret u =>
    obtain ⟨v, τ, G, J, r, q⟩ := z
    exact ⟨v, G, J.os, J.bare, J.base, J.hok, r, q⟩
  | next =>
    obtain ⟨τ, G, J, q⟩ := z
    exact ⟨V.non, G, J.os, J.bare, J.base, J.hok, rfl, q⟩
  | brk =>
    obtain ⟨_, _, _, q⟩ := z
    exact q.elim
  | cont =>
    obtain ⟨_, _, _, q⟩ := z
    exact q.elim
end
section
variable {X : Cx} {k : Nat} {f : Addr} {fd : FuncData} {ps : List Str} {sp : SpP} {x : Str} {q pos : Pos} {e : Expr} {es : List Expr} {t : TA} {a : Addr} {oe : Obj} {cls : Value} {d : Option Addr}
/-- f(e, ..) in a suite that handles p -/
def tCallPin (sp : SpP) (a : Addr) (cls : Value) (d : Option Addr) (t : TA) : TE := fun σ H Q => t σ H fun vs H1 => sp a cls d vs H1 Q E0
theorem pe_callPin (F : FnPin X.prog X.w X.K X.mg X.base k f fd ps sp) (hr : L2H.RoomH k X.A) (hp : (a, oe) ∈ X.pn) (hz : Zc cls d oe) (hf : ∃ xs, oe.data = .fields xs) (hg : Gl X x) (hm : X.mg x = some (.ref f)) (hk : PySem.W.keepIn X.K (.ref f) = true) (hb : Binds X.K fd ps [])
    (ha : PA X (e :: es) t) (hdb : (x == ("__debug__" : Str)) = false := by decide) (he : starEach (e :: es) X.env = (false, eval e X.env) :: starEach es X.env := by rfl) (hpl : (backTo pos (starEach es X.env)).any (·.1) = false := by rfl) :
    PE X (.Call (.Name x q) (e :: es) [] pos) (tCallPin sp a cls d t) := by
  constructor
  intro pins s σ H Q I h
  refine wpAny_Call_Name_kw (ld_glob I hg hm ?_ hdb)
  refine PySem.W.callWith_K (h₀ := X.base) I.ok.mod.kin hk (thn (ha.run pos pins s σ H _ I h) fun us s1 z => ?_) he hpl
  obtain ⟨vs, H1, I1, rel, want⟩ := z
  refine ⟨I1.kIn, ?_⟩
  have hl : us.length = ps.length := rel.length.symm.trans (F.len _ _ _ _ _ _ _ want)
  have b := hb s1 us I1.kIn (by rw [List.append_nil]; exact hl)
  rw [List.append_nil] at b
  obtain ⟨g1, g2, g3, g4, g5⟩ := I1.pin (a, oe) (List.mem_append_left _ hp)
  have pin : L2H.PinOk X.stack H1 s1 (a, oe) := ⟨g1, g2, fun m => (List.mem_cons.mp (I1.stkSub a m)).elim g3 g4, g5⟩
  refine wpAny_call (codeAny_mono (F.run X.A X.stack s1 H1 ⟨us, []⟩ us vs Q E0 (a, oe) cls d hr pin hz hf I1.env0 b rel want) fun r s' z => ?_)
  cases r with
  | error ev => exact False.elim z
  | ok fl =>
    cases fl with
    | ret u => exact I1.after z
    | next => exact False.elim z
    | brk => exact False.elim z
    | cont => exact False.elim z
end
/-- what isinstance asks of the class of an exception -/
structure ExI (K : PySem.W.Frag) (D : Addr) : Prop where
  cl : (PySem.W.clsIn K D).isSome = true
  ga : PySem.W.findIn K (.ref D) "__getattribute__" = some (some (.builtin "BaseException.__getattribute__"))
  gg : PySem.W.findIn K (.ref D) "__getattr__" = some none
  sb : PySem.W.subIn K (.ref D) (.type "BaseException") = some true
  ca : PySem.W.findIn K (.ref D) "__class__" = some (some (.builtin "object.__class__"))
  gt : PySem.W.specialIn K (.builtin "object.__class__") "__get__" = some (some (.builtin "getset_descriptor.__get__"))
  tk : PySem.W.takesIn K (.builtin "object.__class__") = some true
  mo : PySem.W.mroIn K D (.type "object") = some true
def rIsPin (K : PySem.W.Frag) (a : Addr) (cls : Value) (d : Option Addr) : List V → Hp → VK → Prop := fun xs H Q => ∃ (D dd : Addr) (c : V) (cv : Value) (b : Bool) (fs : List (Str × V)), cls = .ref D ∧ d = some dd ∧ ExI K D ∧
  xs = [.ref a, c] ∧ (∀ u, RelV c u → u = cv) ∧ PySem.W.kitOne K (.ref D) cv = some b ∧ H dd = some (.xd fs) ∧ Q (.bl b) H
theorem call_isPin {X : Cx} {a : Addr} {oe : Obj} {cls : Value} {d : Option Addr} (hp : (a, oe) ∈ X.pn) (hz : Zc cls d oe) (hf : ∃ vs, oe.data = .fields vs) : CallR X (.builtin "isinstance") (rIsPin X.K a cls d) := by
  intro pins s σ H xs us Q I r h
  obtain ⟨D, dd, c, cv, b, fs, rfl, rfl, C, rfl, hcv, e, ed, q⟩ := h
  cases r with
  | cons rx rr =>
    cases rr with
    | cons rt rr =>
      cases rr
      cases rx
      obtain rfl := hcv _ rt
      have hget := (I.pin (a, oe) (List.mem_append_left _ hp)).1
      have hx : ObjOk X.prog X.w H s.heap dd (.xd fs) := I.hok dd _ ed
      obtain ⟨mA, ⟨od, es, ep, hod, _⟩, _⟩ := hx
      obtain ⟨vs, hv⟩ := hf
      have at_ : PySem.W.InstAt s.heap a oe D (some od) := ⟨hget, hz.1, by unfold PySem.W.notCls; rw [hv] <;> rfl, by rw [hz.2]; exact hod⟩
      exact PySem.W.kia_one (PySem.W.kitx_exc C.cl C.ga C.gg C.sb C.ca C.gt C.tk C.mo) I.kIn at_ e (fun z => nomatch z) fun tk => ⟨.bl b, H, I.tok tk, rfl, q⟩
end L2

set_option Elab.async false
set_option linter.all false
set_option maxRecDepth 100000
set_option maxHeartbeats 4000000
/-! Texts, a: words, numbers, terms -/
namespace K02
open PySem L2
def top (i : Nat) : Stmt := PySem.Challenge.pw_tagblocks_k02_head_lines_read.main.body.getD i (.Pass ⟨0, 0, 0, 0⟩)
abbrev PP : Program := PySem.Challenge.pw_tagblocks_k02_head_lines_read
abbrev sAmong : Stmt := top 11
abbrev sLines : Stmt := top 12
abbrev sNum : Stmt := top 13
abbrev sBetw : Stmt := top 14
abbrev sTerm : Stmt := top 15
abbrev sSum : Stmt := top 16
abbrev sComp : Stmt := top 17
abbrev sPart : Stmt := top 18
abbrev sTest : Stmt := top 19
/-! ### what stands in the module -/
structure TxtN (mg : Str → Option Value) : Prop where
  isi : mg "isinstance" = none
  str : mg "str" = none
  len : mg "len" = none
  int : mg "int" = none
  range : mg "range" = none
  tuple : mg "tuple" = none
  list : mg "list" = none
  enumerate : mg "enumerate" = none
  min : mg "min" = none
  fig : ∃ t, mg "MOST_FIGURES" = some (.int 30 t)
  terms : ∃ t, mg "MOST_TERMS" = some (.int 4 t)
  parts : ∃ t, mg "MOST_PARTS" = some (.int 4 t)
/-! ### membership -/
theorem inV_str (w : Str) : ∀ ns : List Str, inV (.str w) (ns.map V.str) = decide (w ∈ ns)
  | [] => by simp [inV]
  | n :: ns => by
    have ih := inV_str w ns
    unfold inV at ih ⊢
    rw [List.map_cons, List.any_cons, ih]
    by_cases h : w = n
    · subst h
      simp [eqV]
    · have h2 : ¬ n = w := fun z => h z.symm
      simp [eqV, h, h2]
theorem flat_str : ∀ ns : List Str, (ns.map V.str).all flatV = true
  | [] => rfl
  | n :: ns => by
    rw [List.map_cons, List.all_cons, flat_str ns]
    rfl
/-! ### the mirrors -/
def numM (w : Str) : Option Int := if (!Txt.isdigit w || decide (30 < w.length)) = true then none else if (decide (1 < w.length) && Txt.startswith w "0") = true then none else intText? w
/-- what is written in figures alone can be read -/
def NumOk (w : Str) : Prop := Txt.isdigit w = true → w.length ≤ 30 → ∃ n, intText? w = some n
def optI : Option Int → V
  | none => .non
  | some n => .int n
def termV (w : Str) (ns : List Str) : Option V := if w ∈ ns then some (.str w) else (numM w).map V.int
def optV : Option V → V
  | none => .non
  | some v => v
/-! ### the promises -/
def spAmong (K : PySem.W.Frag) : Sp := fun vs H Q _ => ∃ (w : Str) (t : Addr) (ns : List Str), vs = [.str w, .ref t] ∧ SqT K H t (ns.map V.str) ∧ Q (.bl (decide (w ∈ ns))) H
def spNum : Sp := fun vs H Q _ => ∃ w : Str, vs = [.str w] ∧ w.length ≤ 1000 ∧ NumOk w ∧ Q (optI (numM w)) H
def spTerm (K : PySem.W.Frag) : Sp := fun vs H Q _ => ∃ (w : Str) (t : Addr) (ns : List Str), vs = [.str w, .ref t] ∧ w.length ≤ 1000 ∧ NumOk w ∧ SqT K H t (ns.map V.str) ∧ Q (optV (termV w ns)) H
section
variable {P : Program} {w : World} {K : PySem.W.Frag} {mg : Str → Option Value} {base : Heap}
theorem scAmong : FnScope ["value", "words"] ["value", "words"] (defScope sAmong) := ⟨rfl, rfl, rfl, by decide +kernel, rfl, by decide +kernel, by decide +kernel⟩
theorem ok_among {f : Addr} {fd : FuncData} (F : Fun K "is_among" "is_among" sAmong f fd) (T : TxtN mg) : FnOk P w K mg base CX0 1 f fd ["value", "words"] (spAmong K) := by
  refine F.ok scAmong (fun vs H Q E h => ?_) (fun cdv A outer s H vs Q E hr h => ?_)
  · obtain ⟨x, t, ns, rfl, _⟩ := h
    rfl
  · obtain ⟨x, t, ns, rfl, ht, k⟩ := h
    refine ⟨_, pss_one (ps_ret (pe_and (pe_callB (id := "isinstance") call_isi (by rfl) T.isi (by decide +kernel) (pa_cons (pv 0) (pa_cons (pe_bltn (v := .ty "str") (by rfl) T.str (by decide +kernel) rfl) pa_nil))) (pe_one (pe_cmpR op_in_seq (pv 0) (pv 1) (by rfl))))), ?_⟩
    refine ⟨_, rfl, .str x, .ty "str", .type "str", .type "str", true, rfl, .ty _, .base (.str _), rfl, _, rfl, ?_⟩
    refine iteT ?_
    refine ⟨_, rfl, _, rfl, t, _, rfl, .inr ht, rfl, flat_str ns, ?_⟩
    rw [if_neg Bool.false_ne_true, inV_str]
    exact k
theorem scNum : FnScope ["word"] ["word"] (defScope sNum) := ⟨rfl, rfl, rfl, by decide +kernel, rfl, by decide +kernel, by decide +kernel⟩
theorem ok_num {f : Addr} {fd : FuncData} (F : Fun K "number_in" "number_in" sNum f fd) (T : TxtN mg) : FnOk P w K mg base CX0 1 f fd ["word"] spNum := by
  obtain ⟨tk, hfig⟩ := T.fig
  refine F.ok scNum (fun vs H Q E h => ?_) (fun cdv A outer s H vs Q E hr h => ?_)
  · obtain ⟨x, rfl, _⟩ := h
    rfl
  · obtain ⟨x, rfl, hx, hok, k⟩ := h
    have hz : x.length ≤ sizeLine := Nat.le_of_lt (small1000 hx)
    refine ⟨_, pss_cons (ps_if (PW.pt (pw_or (pt_not (pt_val (pe_bm0 PySem.F.plainAttrs_str PySem.F.slot_str_isdigit PySem.F.type_str_isdigit mt_isdigit (pv 0)))) (pw_or1 (pt_cmpR op_gt (pe_callB call_len_str (by rfl) T.len PySem.boot_len (pa_cons (pv 0) pa_nil)) (pe_glob (v := .int 30) (by rfl) hfig ⟨tk, rfl⟩) (nomark _))))) (pss_one (ps_ret pe_non)) pss_nil)
      (pss_cons (ps_if (PW.pt (pw_and (pt_cmpR op_gt (pe_callB call_len_str (by rfl) T.len PySem.boot_len (pa_cons (pv 0) pa_nil)) pe_int (nomark _)) (pw_and1 (pt_val (pe_bm PySem.F.plainAttrs_str PySem.F.slot_str_startswith PySem.F.type_str_startswith mt_startswith (pv 0) (pa_cons pe_str pa_nil)))))) (pss_one (ps_ret pe_non)) pss_nil)
      (pss_one (ps_ret (pe_callTy call_int_str (by rfl) T.int (by decide +kernel) (pa_cons (pv 0) pa_nil))))), ?_⟩
    refine ⟨_, rfl, rfl, x, rfl, rfl, True.intro, _, rfl, ?_⟩
    cases e1 : Txt.isdigit x with
    | false =>
      refine ite2 (fun _ => ?_) (fun z => absurd rfl z)
      refine iteT ?_
      have : numM x = none := by
        unfold numM
        rw [e1]
        rfl
      rw [this] at k
      exact k
    | true =>
      refine ite2 (fun z => Bool.noConfusion z) (fun _ => ?_)
      refine ⟨_, rfl, x, rfl, hz, _, _, rfl, rfl, _, rfl, ?_⟩
      refine ite2 (fun h30 => ?_) (fun h30 => ?_)
      · have h : (30 : Int) < (x.length : Int) := of_decide_eq_true h30
        have : numM x = none := by
          unfold numM
          rw [e1, decide_eq_true (show 30 < x.length by omega)]
          rfl
        rw [this] at k
        exact k
      · have h : ¬ (30 : Int) < (x.length : Int) := fun z => h30 (decide_eq_true z)
        have hM : numM x = if (decide (1 < x.length) && Txt.startswith x "0") = true then none else intText? x := by
          unfold numM
          rw [e1, decide_eq_false (show ¬ 30 < x.length by omega)]
          rfl
        obtain ⟨n, hn⟩ := hok e1 (by omega)
        have fin : (decide (1 < x.length) && Txt.startswith x "0") = false → Q (.int n) H := fun z => by
          rw [hM, z, if_neg Bool.false_ne_true, hn] at k
          exact k
        have out : (decide (1 < x.length) && Txt.startswith x "0") = true → Q .non H := fun z => by
          rw [hM, if_pos z] at k
          exact k
        refine ⟨_, rfl, x, rfl, hz, _, _, rfl, rfl, _, rfl, ?_⟩
        refine ite2 (fun h1 => ?_) (fun h1 => ?_)
        · have h1' : 1 < x.length := by have := of_decide_eq_true h1; omega
          refine ⟨_, rfl, rfl, x, "0", rfl, rfl, _, rfl, ?_⟩
          refine ite2 (fun h2 => ?_) (fun h2 => ?_)
          · exact out (by rw [h2, decide_eq_true h1']; rfl)
          · exact ⟨_, rfl, x, n, rfl, hn, by omega, fin (by rw [Bool.eq_false_iff.mpr h2, Bool.and_false])⟩
        · have h1' : ¬ 1 < x.length := fun z => h1 (decide_eq_true (by omega))
          exact ⟨_, rfl, x, n, rfl, hn, by omega, fin (by rw [decide_eq_false h1', Bool.false_and])⟩
theorem scTerm : FnScope ["word", "names"] ["word", "names"] (defScope sTerm) := ⟨rfl, rfl, rfl, by decide +kernel, rfl, by decide +kernel, by decide +kernel⟩
theorem ok_term {f fN : Addr} {fd fdN : FuncData} (F : Fun K "term_in" "term_in" sTerm f fd) (T : TxtN mg) (FN : Fun K "number_in" "number_in" sNum fN fdN) (bN : Binds K fdN ["word"] []) (gN : mg "number_in" = some (.ref fN)) : FnOk P w K mg base CX0 2 f fd ["word", "names"] (spTerm K) := by
  have GN : FnOk P w K mg base CX0 1 fN fdN ["word"] spNum := ok_num FN T
  refine F.ok scTerm (fun vs H Q E h => ?_) (fun cdv A outer s H vs Q E hr h => ?_)
  · obtain ⟨x, t, ns, rfl, _⟩ := h
    rfl
  · obtain ⟨x, t, ns, rfl, hx, hok, ht, k⟩ := h
    refine ⟨_, pss_cons (ps_if (pt_cmpR op_in_seq (pv 0) (pv 1) (by rfl)) (pss_one (ps_ret (pv 0))) pss_nil)
      (pss_one (ps_ret (pe_call GN hr rfl gN FN.kp bN .nil pass0 (pa_cons (pv 0) pa_nil)))), ?_⟩
    refine ⟨_, rfl, _, rfl, t, _, rfl, .inr ht, rfl, flat_str ns, ?_⟩
    rw [if_neg Bool.false_ne_true, inV_str]
    refine ⟨_, rfl, ?_⟩
    unfold termV at k
    refine ite2 (fun h => ?_) (fun h => ?_)
    · rw [if_pos (of_decide_eq_true h)] at k
      exact ⟨_, rfl, k⟩
    · rw [if_neg (fun z => h (decide_eq_true z))] at k
      refine ⟨_, rfl, x, rfl, hx, hok, ?_⟩
      cases e : numM x with
      | none =>
        rw [e] at k
        exact k
      | some n =>
        rw [e] at k
        exact k
end
end K02

set_option Elab.async false
set_option linter.all false
set_option maxRecDepth 100000
set_option maxHeartbeats 8000000
/-! Texts, b: sums -/
namespace K02
open PySem L2
def prs : List Str → List (Str × Str)
  | s :: t :: r => (s, t) :: prs r
  | _ => []
theorem prs_get : ∀ (S : List Str) (i : Nat) (s t : Str), S[2 * i]? = some s → S[2 * i + 1]? = some t → (prs S)[i]? = some (s, t)
  | [], i, s, t, h, _ => by simp at h
  | [x], i, s, t, _, h => by simp at h
  | x :: y :: r, 0, s, t, h1, h2 => by
    simp at h1 h2
    simp [prs, h1, h2]
  | x :: y :: r, i + 1, s, t, h1, h2 => by
    have e1 : 2 * (i + 1) = 2 * i + 1 + 1 := by omega
    have e2 : 2 * (i + 1) + 1 = (2 * i + 1) + 1 + 1 := by omega
    rw [e1] at h1
    rw [e2] at h2
    simp only [List.getElem?_cons_succ] at h1 h2
    simp only [prs, List.getElem?_cons_succ]
    exact prs_get r i s t h1 h2
/-- terms so far -/
abbrev Acc := List (Int × V)
def keyV : V → Key
  | .str x => .inr x
  | .int n => .inl n
  | _ => .inl 0
def usedL : Acc → List (Key × V)
  | [] => []
  | (_, .str x) :: r => (.inr x, .bl true) :: usedL r
  | _ :: r => usedL r
def sgn (s : Str) : Int := if s = "+" then 1 else -1
def sumGo (ns : List Str) : List (Str × Str) → Acc → Option Acc
  | [], acc => some acc
  | (s, t) :: r, acc => match termV t ns with
    | none => none
    | some v => if (decide (s ∈ [("+" : Str), "-"]) && !(valV (usedL acc) (keyV v)).isSome) = true then sumGo ns r (acc ++ [(sgn s, v)]) else none
def sumM (ws ns : List Str) : Option Acc := if ws.length % 2 = 0 ∨ 7 < ws.length then none else sumGo ns (prs (("+" : Str) :: ws)) []
def datV : V → PyData
  | .str x => .str x
  | .int n => .int n
  | _ => .none
def sumD (acc : Acc) : PyData := .tuple (acc.map fun p => .tuple [.int p.1, datV p.2])
mutual
/-- data of tuples, texts and numbers alone -/
inductive TDp (K : PySem.W.Frag) (H : Hp) : V → PyData → Prop
  | non : TDp K H .non .none
  | bl (b : Bool) : TDp K H (.bl b) (.bool b)
  | int (i : Int) : TDp K H (.int i) (.int i)
  | str (x : Str) : TDp K H (.str x) (.str x)
  | tup {a : Addr} {xs : List V} {ds : List PyData} : SqT K H a xs → TDpAll K H xs ds → TDp K H (.ref a) (.tuple ds)
inductive TDpAll (K : PySem.W.Frag) (H : Hp) : List V → List PyData → Prop
  | nil : TDpAll K H [] []
  | cons {v : V} {vs : List V} {d : PyData} {ds : List PyData} : TDp K H v d → TDpAll K H vs ds → TDpAll K H (v :: vs) (d :: ds)
end
/-- the tuples are kept -/
def Tk (H H' : Hp) : Prop := ∀ (K : PySem.W.Frag) (a : Addr) (xs : List V), SqT K H a xs → SqT K H' a xs
theorem Same.tk {H H' : Hp} (s : Same H H') : Tk H H' := fun K a xs h => by
  rcases h with (h | ⟨o, h⟩) | h
  · exact .inl (.inl (s _ _ h))
  · exact .inl (.inr ⟨o, s _ _ h⟩)
  · exact .inr h
theorem Tk.trans {H H1 H2 : Hp} (a : Tk H H1) (b : Tk H1 H2) : Tk H H2 := fun K p xs h => b K p xs (a K p xs h)
/-- a list or a dict is written -/
theorem Tk.write {H : Hp} {a : Addr} {o u : HO} (ha : H a = some u) (h1 : ∀ xs, u ≠ .tup xs := by intro _ z; cases z) (h2 : ∀ ob y, u ≠ .frz ob y := by intro _ _ z; cases z) : Tk H (upd H a o) := fun K b xs h => by
  rcases h with (h | ⟨ob, h⟩) | h
  · exact .inl (.inl (by rw [upd_ne (fun z => h1 _ (by rw [z] at h; exact Option.some.inj (ha.symm.trans h)))]; exact h))
  · exact .inl (.inr ⟨ob, by rw [upd_ne (fun z => h2 _ _ (by rw [z] at h; exact Option.some.inj (ha.symm.trans h)))]; exact h⟩)
  · exact .inr h
mutual
theorem TDp.keep {K : PySem.W.Frag} {H H' : Hp} (t : Tk H H') : ∀ {v : V} {d : PyData}, TDp K H v d → TDp K H' v d
  | _, _, .non => .non
  | _, _, .bl b => .bl b
  | _, _, .int i => .int i
  | _, _, .str x => .str x
  | _, _, .tup h r => .tup (t K _ _ h) (TDpAll.keep t r)
theorem TDpAll.keep {K : PySem.W.Frag} {H H' : Hp} (t : Tk H H') : ∀ {vs : List V} {ds : List PyData}, TDpAll K H vs ds → TDpAll K H' vs ds
  | _, _, .nil => .nil
  | _, _, .cons h r => .cons (TDp.keep t h) (TDpAll.keep t r)
end
theorem TDpAll.snoc {K : PySem.W.Frag} {H : Hp} {v : V} {d : PyData} (h : TDp K H v d) : ∀ {vs : List V} {ds : List PyData}, TDpAll K H vs ds → TDpAll K H (vs ++ [v]) (ds ++ [d])
  | _, _, .nil => .cons h .nil
  | _, _, .cons h1 r => .cons h1 (TDpAll.snoc h r)
theorem TDpAll.len {K : PySem.W.Frag} {H : Hp} : ∀ {vs : List V} {ds : List PyData}, TDpAll K H vs ds → vs.length = ds.length
  | _, _, .nil => rfl
  | _, _, .cons _ r => congrArg (· + 1) (TDpAll.len r)
def SumV (K : PySem.W.Frag) (H : Hp) (v : V) : Option Acc → Prop
  | none => v = .non
  | some acc => v ≠ .non ∧ TDp K H v (sumD acc)
def spSum (K : PySem.W.Frag) : Sp := fun vs H Q _ => ∃ (a t : Addr) (ws ns : List Str), vs = [.ref a, .ref t] ∧ SqL K H a (ws.map V.str) ∧ SqT K H t (ns.map V.str) ∧ (∀ w ∈ ws, w.length ≤ 1000 ∧ NumOk w) ∧ ws.length ≤ 1000 ∧
  ∀ (v : V) (H' : Hp), Same H H' → SumV K H' v (sumM ws ns) → Q v H'
theorem usedL_add (acc : Acc) (s : Int) : ∀ v : V, usedL (acc ++ [(s, v)]) = usedL acc ++ usedL [(s, v)] := by
  intro v
  induction acc with
  | nil => rfl
  | cons p r ih =>
    obtain ⟨q, x⟩ := p
    cases x <;> simp [usedL, ih]
theorem usedL_len : ∀ acc : Acc, (usedL acc).length ≤ acc.length
  | [] => Nat.le_refl _
  | (_, .str x) :: r => Nat.succ_le_succ (usedL_len r)
  | (_, .non) :: r => Nat.le_succ_of_le (usedL_len r)
  | (_, .bl _) :: r => Nat.le_succ_of_le (usedL_len r)
  | (_, .int _) :: r => Nat.le_succ_of_le (usedL_len r)
  | (_, .byt _) :: r => Nat.le_succ_of_le (usedL_len r)
  | (_, .flt _) :: r => Nat.le_succ_of_le (usedL_len r)
  | (_, .ref _) :: r => Nat.le_succ_of_le (usedL_len r)
  | (_, .ty _) :: r => Nat.le_succ_of_le (usedL_len r)
/-- a term is a name or a number -/
def IsTerm (v : V) : Prop := (∃ x, v = .str x) ∨ ∃ n, v = .int n
theorem term_is {t : Str} {ns : List Str} {v : V} (h : termV t ns = some v) : IsTerm v := by
  unfold termV at h
  split at h
  · cases h
    exact .inl ⟨_, rfl⟩
  · cases e : numM t with
    | none => rw [e] at h; cases h
    | some n =>
      rw [e] at h
      cases h
      exact .inr ⟨_, rfl⟩
/-- the terms' tuples stand -/
def TupAt (H : Hp) : List Addr → Acc → Prop := Paired fun t p => H t = some (.tup [.int p.1, p.2]) ∧ IsTerm p.2
theorem TupAt.keep {H H' : Hp} (s : Same H H') : ∀ {ts : List Addr} {acc : Acc}, TupAt H ts acc → TupAt H' ts acc
  | _, _, .nil => .nil
  | _, _, .cons h r => .cons ⟨s _ _ h.1, h.2⟩ (TupAt.keep s r)
theorem TupAt.snoc {H : Hp} {t : Addr} {p : Int × V} (h : H t = some (.tup [.int p.1, p.2]) ∧ IsTerm p.2) : ∀ {ts : List Addr} {acc : Acc}, TupAt H ts acc → TupAt H (ts ++ [t]) (acc ++ [p])
  | _, _, .nil => .cons h .nil
  | _, _, .cons h1 r => .cons h1 (TupAt.snoc h r)
/-- a list or a dict is written: the tuples stand -/
theorem tupW {H : Hp} {a : Addr} {o u : HO} (hu : ∀ xs, u ≠ .tup xs) (ha : H a = some u) : ∀ {ts : List Addr} {acc : Acc}, TupAt H ts acc → TupAt (upd H a o) ts acc
  | _, _, .nil => .nil
  | _, _, .cons h r => .cons ⟨by rw [upd_ne (fun z => hu _ (by rw [z] at h; exact Option.some.inj (ha.symm.trans h.1)))]; exact h.1, h.2⟩ (tupW hu ha r)
theorem TupAt.len {H : Hp} : ∀ {ts : List Addr} {acc : Acc}, TupAt H ts acc → ts.length = acc.length
  | _, _, .nil => rfl
  | _, _, .cons _ r => congrArg (· + 1) (TupAt.len r)
theorem dat_dp {K : PySem.W.Frag} {H : Hp} {v : V} (h : IsTerm v) : TDp K H v (datV v) := by
  rcases h with ⟨x, rfl⟩ | ⟨n, rfl⟩
  · exact .str x
  · exact .int n
theorem TupAt.dp {K : PySem.W.Frag} {H : Hp} : ∀ {ts : List Addr} {acc : Acc}, TupAt H ts acc → TDpAll K H (ts.map V.ref) (acc.map fun p => .tuple [.int p.1, datV p.2])
  | _, _, .nil => .nil
  | _, _, .cons h r => .cons (.tup (SqT.of h.1) (.cons (.int _) (.cons (dat_dp h.2) .nil))) (TupAt.dp r)
theorem rg2 {m : Nat} (h : m = 1 ∨ m = 3 ∨ m = 5 ∨ m = 7) : RgC 0 ((m : Int) + 1) 2 ((m + 1) / 2) := by
  rcases h with rfl | rfl | rfl | rfl
  all_goals exact ⟨by decide, by decide, by decide +kernel, by decide +kernel⟩
theorem Same.new {H : Hp} {a : Addr} {o : HO} (h : H a = none) : Same H (upd H a o) := fun b u e => by
  rw [upd_ne (ne_of_none e h)]
  exact e
/-- an object of ours is written, which did not stand in H -/
theorem Same.write {H G : Hp} {a : Addr} {o : HO} (s : Same H G) (h : H a = none) : Same H (upd G a o) := fun b u e => by
  rw [upd_ne (ne_of_none e h)]
  exact s b u e
theorem seqT {K : PySem.W.Frag} {H H' : Hp} {a : Addr} {xs : List V} (e : Same H H') (h : SqT K H a xs) : SqT K H' a xs := by
  rcases h with (h | ⟨o, h⟩) | h
  · exact .inl (.inl (e _ _ h))
  · exact .inl (.inr ⟨o, e _ _ h⟩)
  · exact .inr h
theorem ifF3 {c : Bool} {A B : Prop} (hc : c = false) (h : B) : if c = true then A else B := by
  rw [hc, if_neg Bool.false_ne_true]
  exact h
theorem ifT3 {c : Bool} {A B : Prop} (hc : c = true) (h : A) : if c = true then A else B := by
  rw [if_pos hc]
  exact h
theorem drop_cons {α : Type} : ∀ {l : List α} {i : Nat} {x : α}, l[i]? = some x → l.drop i = x :: l.drop (i + 1)
  | [], i, x, h => by simp at h
  | y :: l, 0, x, h => by
    simp at h
    simp [h]
  | y :: l, i + 1, x, h => by
    simp only [List.getElem?_cons_succ] at h
    simp only [List.drop_succ_cons]
    exact drop_cons h
theorem kV_key {v : V} (h : IsTerm v) : kV (keyV v) = v := by
  rcases h with ⟨x, rfl⟩ | ⟨n, rfl⟩ <;> rfl
theorem prs_len : ∀ S : List Str, (prs S).length = S.length / 2
  | [] => rfl
  | [x] => by
    show 0 = 1 / 2
    omega
  | x :: y :: r => by
    show (prs r).length + 1 = (r.length + 1 + 1) / 2
    rw [prs_len r]
    omega
section
variable {P : Program} {w : World} {K : PySem.W.Frag} {mg : Str → Option Value} {base : Heap}
theorem scSum : FnScope ["words", "names", "signed", "terms", "used", "at", "term"] ["words", "names"] (defScope sSum) := ⟨rfl, rfl, rfl, by decide +kernel, rfl, by decide +kernel, by decide +kernel⟩
theorem ok_sum {f fT : Addr} {fd fdT : FuncData} (F : Fun K "sum_in" "sum_in" sSum f fd) (T : TxtN mg) (GT : FnOk P w K mg base CX0 2 fT fdT ["word", "names"] (spTerm K)) (kT : PySem.W.keepIn K (.ref fT) = true) (bT : Binds K fdT ["word", "names"] []) (gT : mg "term_in" = some (.ref fT)) : FnOk P w K mg base CX0 3 f fd ["words", "names"] (spSum K) := by
  obtain ⟨tk, hterms⟩ := T.terms
  refine F.ok scSum (fun vs H Q E h => ?_) (fun cdv A outer s H vs Q E hr h => ?_)
  · obtain ⟨a, t, ws, ns, rfl, _⟩ := h
    rfl
  · obtain ⟨a, t, ws, ns, rfl, ha, ht, hok, hlen, k⟩ := h
    have hu := hu_of hr
    refine ⟨_, pss_cons (ps_if (PW.pt (pw_or (pt_cmpR op_eq (pe_op op_mod (pe_callB call_len_seq (by rfl) T.len PySem.boot_len (pa_cons (pv 0) pa_nil)) pe_int) pe_int (nomark _)) (pw_or1 (pt_cmpR op_gt (pe_callB call_len_seq (by rfl) T.len PySem.boot_len (pa_cons (pv 0) pa_nil)) (pe_op op_sub (pe_op op_mul pe_int (pe_glob (v := .int 4) (by rfl) hterms ⟨tk, rfl⟩)) pe_int) (nomark _))))) (pss_one (ps_ret pe_non)) pss_nil)
      (pss_cons (ps_set (i := 2) scSum.nd rfl (Or.inl rfl) (pe_lst (pa_cons pe_str (StX.pa_star (pv 0) pa_nil))))
      (pss_cons (ps_set (i := 3) scSum.nd rfl (Or.inl rfl) (pe_lst pa_nil))
      (pss_cons (ps_set (i := 4) scSum.nd rfl (Or.inl rfl) pe_dnewK)
      (pss_cons (ps_for PassesOwn.never rfl (pi_range3 (by rfl) T.range (pa_cons pe_int (pa_cons (pe_callB call_len_seq (by rfl) T.len PySem.boot_len (pa_cons (pv 2) pa_nil)) (pa_cons pe_int pa_nil)))) (pg_name (i := 5) scSum.nd rfl (Or.inl rfl))
        (pss_cons (ps_set (i := 6) scSum.nd rfl (Or.inl rfl) (pe_call GT hr rfl gT kT bT .nil pass0 (pa_cons (pe_ix ix_list (pv 2) (pe_op op_add (pv 5) pe_int) (fun _ _ => rfl)) (pa_cons (pv 1) pa_nil))))
        (pss_cons (ps_if (PW.pt (pw_or (pt_cmpR op_notIn_seq (pe_ix ix_list (pv 2) (pv 5) (fun _ _ => rfl)) (pe_tup (pa_cons pe_str (pa_cons pe_str pa_nil))) (by rfl)) (pw_or (pt_cmpR op_isN (pv 6) pe_non (nomark _)) (pw_or1 (pt_cmp (pc_din hu (pv 6) (pv 4))))))) (pss_one (ps_ret pe_non)) pss_nil)
        (pss_cons (ps_if (pt_val (pe_callB (id := "isinstance") call_isi (by rfl) T.isi (by decide +kernel) (pa_cons (pv 6) (pa_cons (pe_bltn (v := .ty "str") (by rfl) T.str (by decide +kernel) rfl) pa_nil)))) (pss_one (ps_dput hu (pv 4) (pv 6) pe_bl rfl)) pss_nil)
        (pss_one (ps_expr (pe_bm PySem.F.plainAttrs_list PySem.F.slot_list_append PySem.F.type_list_append mt_append (pv 3) (pa_cons (pe_tup (pa_cons (pe_ifExp (pt_cmpR op_eq (pe_ix ix_list (pv 2) (pv 5) (fun _ _ => rfl)) pe_str (nomark _)) pe_int (pe_un un_neg pe_int)) (pa_cons (pv 6) pa_nil))) pa_nil))))))))
      (pss_one (ps_ret (pe_callTy call_tuple_of (by rfl) T.tuple (by decide +kernel) (pa_cons (pv 3) pa_nil)))))))), ?_⟩
    have hlL : ((ws.map V.str).length : Int) = (ws.length : Int) := by rw [List.length_map]
    have out : ws.length % 2 = 0 ∨ 7 < ws.length → Q .non H := fun z => k .non H (Same.refl H) (by
      unfold sumM
      rw [if_pos z]
      rfl)
    refine ⟨_, rfl, a, _, rfl, .inl ha, _, 2, rfl, rfl, (by show (0 : Int) < 2; decide), rfl, _, rfl, ?_⟩
    refine ite2 (fun h0 => ?_) (fun h0 => ?_)
    · refine iteT ?_
      have h0' := V.int.inj (of_decide_eq_true h0)
      rw [hlL] at h0'
      exact out (.inl (by omega))
    have h0' : ws.length % 2 ≠ 0 := fun z => h0 (by
      rw [hlL]
      exact decide_eq_true (congrArg V.int (show ((ws.length : Int) % 2) = 0 by omega)))
    refine ⟨_, rfl, a, _, rfl, .inl ha, 2, 4, rfl, rfl, .inl ⟨by decide, by decide⟩, 8, 1, rfl, rfl, _, 7, rfl, rfl, _, rfl, ?_⟩
    refine ite2 (fun h7 => ?_) (fun h7 => ?_)
    · have h7' := of_decide_eq_true h7
      rw [hlL] at h7'
      exact out (.inr (by omega))
    have h7' : ws.length ≤ 7 := by
      have : ¬ (7 : Int) < ((ws.map V.str).length : Int) := fun z => h7 (decide_eq_true z)
      rw [hlL] at this
      omega
    refine ⟨_, rfl, a, _, rfl, .inr ha, (by
      rw [List.append_nil]
      exact Nat.le_of_lt (small1000 (by show (ws.map V.str).length + 1 ≤ 1000; rw [List.length_map]; omega))), fun S nS => ?_⟩
    rw [List.append_nil]
    refine ⟨(by show 0 ≤ sizeLine; decide), fun L nL => ?_⟩
    intro D nD
    have sS := Same.new (o := .lst ((("+" : Str) :: ws).map V.str)) nS
    have sL := sS.trans (Same.new (o := .lst []) nL)
    have sD := sL.trans (Same.new (o := .dK []) nD)
    have nSL : S ≠ L := fun e => by rw [← e, upd_same] at nL; cases nL
    have nSD : S ≠ D := fun e => by rw [← e, upd_ne nSL, upd_same] at nD; cases nD
    have nLD : L ≠ D := fun e => by rw [← e, upd_same] at nD; cases nD
    have HL : H L = none := sS.free nL
    have HD : H D = none := sL.free nD
    have hS0 : upd (upd (upd H S (.lst ((("+" : Str) :: ws).map V.str))) L (.lst [])) D (.dK []) S = some (.lst ((("+" : Str) :: ws).map V.str)) := by rw [upd_ne nSD, upd_ne nSL, upd_same]
    have hl1 : (((("+" : Str) :: ws).map V.str).length : Int) = (ws.length : Int) + 1 := by
      rw [List.length_map, List.length_cons]
      omega
    have hodd : ws.length = 1 ∨ ws.length = 3 ∨ ws.length = 5 ∨ ws.length = 7 := by omega
    have hrg : RgC 0 (((("+" : Str) :: ws).map V.str).length : Int) 2 ((ws.length + 1) / 2) := by
      rw [hl1]
      exact rg2 hodd
    have hsum : sumM ws ns = sumGo ns (prs (("+" : Str) :: ws)) [] := by
      unfold sumM
      rw [if_neg (by omega)]
    refine ⟨_, rfl, S, _, rfl, .inl (SqL.of hS0), 0, _, 2, _, rfl, hrg, for_rangeC (lo := 0) (c := 2) (n := (ws.length + 1) / 2)
      (fun i σ G => ∃ (acc : Acc) (ts : List Addr) (v5 v6 : Option V), σ = [some (.ref a), some (.ref t), some (.ref S), some (.ref L), some (.ref D), v5, v6] ∧ G S = some (.lst ((("+" : Str) :: ws).map V.str)) ∧ G L = some (.lst (ts.map V.ref)) ∧ G D = some (.dK (usedL acc)) ∧ TupAt G ts acc ∧ Same H G ∧
        sumGo ns (prs (("+" : Str) :: ws)) [] = sumGo ns ((prs (("+" : Str) :: ws)).drop i) acc ∧ acc.length = i)
      ⟨[], [], none, none, rfl, hS0, by rw [upd_ne nLD]; exact upd_same, upd_same, .nil, sD, rfl, rfl⟩ ?_ ?_⟩
    · rintro i σ G hi ⟨acc, ts, v5, v6, rfl, hS, hL, hD, hT, hH, hgo, hacc⟩
      have hi2 : 2 * i + 1 < (("+" : Str) :: ws).length := by
        rw [List.length_cons]
        omega
      have hTl := hT.len
      obtain ⟨s1, e1⟩ : ∃ s1, (("+" : Str) :: ws)[2 * i]? = some s1 := ⟨_, List.getElem?_eq_getElem (by omega)⟩
      obtain ⟨t1, e2⟩ : ∃ t1, (("+" : Str) :: ws)[2 * i + 1]? = some t1 := ⟨_, List.getElem?_eq_getElem hi2⟩
      have c1 : atI ((("+" : Str) :: ws).map V.str) (0 + (i : Int) * 2) = some (.str s1) := by
        rw [show (0 + (i : Int) * 2) = ((2 * i : Nat) : Int) by omega]
        exact atI_nat (by rw [List.getElem?_map, e1]; rfl)
      have c2 : atI ((("+" : Str) :: ws).map V.str) (0 + (i : Int) * 2 + 1) = some (.str t1) := by
        rw [show (0 + (i : Int) * 2 + 1) = ((2 * i + 1 : Nat) : Int) by omega]
        exact atI_nat (by rw [List.getElem?_map, e2]; rfl)
      have ok1 : t1.length ≤ 1000 ∧ NumOk t1 := by
        have hm : t1 ∈ ws := by
          have z : ws[2 * i]? = some t1 := by simpa using e2
          exact List.mem_of_getElem? z
        exact hok t1 hm
      have hdrop := drop_cons (prs_get _ i s1 t1 e1 e2)
      rw [hdrop] at hgo
      refine ⟨_, rfl, _, rfl, _, 1, rfl, rfl, S, _, _, _, rfl, rfl, SqL.of hS, c2, _, rfl, t1, t, ns, rfl, ok1.1, ok1.2, seqT hH ht, ?_⟩
      have bad : ∀ G' : Hp, Same H G' → (match termV t1 ns with | none => none | some v => if (decide (s1 ∈ [("+" : Str), "-"]) && !(valV (usedL acc) (keyV v)).isSome) = true then sumGo ns ((prs ((("+" : Str) :: ws))).drop (i + 1)) (acc ++ [(sgn s1, v)]) else none) = none → Q .non G' := fun G' hG' z => k _ _ hG' (by
        rw [hsum, hgo]
        unfold sumGo
        rw [z]
        rfl)
      have hin : inV (.str s1) [.str "+", .str "-"] = decide (s1 ∈ [("+" : Str), "-"]) := inV_str s1 ["+", "-"]
      refine ⟨_, rfl, _, rfl, S, _, _, _, rfl, rfl, SqL.of hS, c1, (by show 2 ≤ sizeLine; decide), fun q nq => ⟨q, _, rfl, .inr (SqT.of upd_same), rfl, rfl, ?_⟩⟩
      rw [if_pos rfl, hin]
      have s1q := hH.trans (Same.new (o := .tup [.str "+", .str "-"]) nq)
      have kq := Same.new (o := .tup [.str "+", .str "-"]) nq
      refine ⟨_, rfl, ?_⟩
      by_cases hs : s1 ∈ [("+" : Str), "-"]
      · rw [decide_eq_true hs] at bad ⊢
        refine iteF ?_
        refine ⟨_, rfl, rfl, _, rfl, ?_⟩
        cases hv : termV t1 ns with
        | none =>
          rw [hv] at bad
          refine iteT ?_
          refine iteT ?_
          exact bad _ s1q rfl
        | some v =>
          rw [hv] at bad
          have it := term_is hv
          have nn : (decide (optV (some v) = V.non)) = false := decide_eq_false (by
            rcases it with ⟨x, rfl⟩ | ⟨n, rfl⟩
            · intro z; cases z
            · intro z; cases z)
          refine ifF3 nn ?_
          have hdg : DGet (upd G q (.tup [.str "+", .str "-"])) D v (valV (usedL acc) (keyV v)) := by
            have z := DGet.k (k := keyV v) (kq _ _ hD)
            rw [kV_key it] at z
            exact z
          refine ⟨_, rfl, _, rfl, D, _, rfl, hdg, _, rfl, ?_⟩
          cases hu1 : valV (usedL acc) (keyV v) with
          | some y =>
            refine iteT ?_
            refine bad _ s1q ?_
            show (if (true && !(valV (usedL acc) (keyV v)).isSome) = true then _ else none) = none
            rw [hu1]
            rfl
          | none =>
            have hgo2 : sumGo ns (prs ((("+" : Str) :: ws))) [] = sumGo ns ((prs ((("+" : Str) :: ws))).drop (i + 1)) (acc ++ [(sgn s1, v)]) := by
              rw [hgo]
              show (match termV t1 ns with | none => none | some v => if (decide (s1 ∈ [("+" : Str), "-"]) && !(valV (usedL acc) (keyV v)).isSome) = true then sumGo ns ((prs ((("+" : Str) :: ws))).drop (i + 1)) (acc ++ [(sgn s1, v)]) else none) = _
              rw [hv]
              show (if (decide (s1 ∈ [("+" : Str), "-"]) && !(valV (usedL acc) (keyV v)).isSome) = true then _ else none) = _
              rw [decide_eq_true hs, hu1]
              rfl
            refine iteF ?_
            have l1 := kq _ _ hL
            have d1 := kq _ _ hD
            have r1 := kq _ _ hS
            have t1' := hT.keep kq
            rcases it with ⟨x, rfl⟩ | ⟨n, rfl⟩
            · refine ⟨_, rfl, .str x, .ty "str", .type "str", .type "str", true, rfl, .ty _, .base (.str _), rfl, _, rfl, ?_⟩
              refine iteT ?_
              have hput : DPut (upd G q (.tup [.str "+", .str "-"])) D (.str x) (.bl true) (upd (upd G q (.tup [.str "+", .str "-"])) D (.dK (putK (usedL acc) (.inr x) (.bl true)))) := DPut.k (k := .inr x) d1 (small1000 (by have := usedL_len acc; omega))
              have eput : putK (usedL acc) (.inr x : Key) (.bl true) = usedL (acc ++ [(sgn s1, .str x)]) := by
                rw [putK_new _ (show valV (usedL acc) (.inr x : Key) = none from hu1), usedL_add]
                rfl
              rw [eput] at hput
              refine ⟨_, rfl, _, rfl, D, _, rfl, hput, ?_⟩
              have l2 : upd (upd G q (.tup [.str "+", .str "-"])) D (.dK (usedL (acc ++ [(sgn s1, .str x)]))) L = some (.lst (ts.map V.ref)) := by rw [upd_ne nLD]; exact l1
              have r2 : upd (upd G q (.tup [.str "+", .str "-"])) D (.dK (usedL (acc ++ [(sgn s1, .str x)]))) S = some (.lst (((("+" : Str) :: ws)).map V.str)) := by rw [upd_ne nSD]; exact r1
              have d2 : upd (upd G q (.tup [.str "+", .str "-"])) D (.dK (usedL (acc ++ [(sgn s1, .str x)]))) D = some (.dK (usedL (acc ++ [(sgn s1, .str x)]))) := upd_same
              have s2 : Same H (upd (upd G q (.tup [.str "+", .str "-"])) D (.dK (usedL (acc ++ [(sgn s1, .str x)])))) := Same.write s1q HD
              have t2 : TupAt (upd (upd G q (.tup [.str "+", .str "-"])) D (.dK (usedL (acc ++ [(sgn s1, .str x)])))) ts acc := tupW (fun xs z => by cases z) d1 t1'
              refine ⟨_, rfl, .inl ⟨rfl, _, SqL.of l2⟩, _, rfl, _, rfl, S, _, _, _, rfl, rfl, SqL.of r2, c1, rfl, _, rfl, ?_⟩
              by_cases e : s1 = "+"
              · refine ifT3 (decide_eq_true (congrArg V.str e)) ?_
                refine ⟨_, rfl, (by show 2 ≤ sizeLine; decide), fun p np => ?_⟩
                have kp := Same.new (o := .tup [.int (1), (.str x)]) np
                have nLp : L ≠ p := ne_of_none l2 np
                have nSp : S ≠ p := ne_of_none r2 np
                have nDp : D ≠ p := ne_of_none d2 np
                refine ⟨L, _, _, rfl, rfl, kp _ _ l2, small1000 (by rw [List.length_map, hTl]; omega), ?_⟩
                have esg : sgn s1 = 1 := by
                  unfold sgn
                  rw [if_pos e]
                refine ⟨acc ++ [(sgn s1, (.str x))], ts ++ [p], _, _, rfl, by rw [upd_ne nSL]; exact kp _ _ r2, by rw [List.map_append]; exact upd_same, by rw [upd_ne nLD.symm]; exact kp _ _ d2, ?_, Same.write (s2.trans kp) HL, hgo2, by rw [List.length_append, hacc]; rfl⟩
                refine TupAt.snoc ⟨?_, .inl ⟨_, rfl⟩⟩ ?_
                · rw [upd_ne nLp.symm, esg]
                  exact upd_same
                · exact tupW (fun xs z => by cases z) (kp _ _ l2) (t2.keep kp)
              · refine ifF3 (decide_eq_false fun z => e (V.str.inj z)) ?_
                refine ⟨1, rfl, _, rfl, (by show 2 ≤ sizeLine; decide), fun p np => ?_⟩
                have kp := Same.new (o := .tup [.int (-1), (.str x)]) np
                have nLp : L ≠ p := ne_of_none l2 np
                have nSp : S ≠ p := ne_of_none r2 np
                have nDp : D ≠ p := ne_of_none d2 np
                refine ⟨L, _, _, rfl, rfl, kp _ _ l2, small1000 (by rw [List.length_map, hTl]; omega), ?_⟩
                have esg : sgn s1 = -1 := by
                  unfold sgn
                  rw [if_neg e]
                refine ⟨acc ++ [(sgn s1, (.str x))], ts ++ [p], _, _, rfl, by rw [upd_ne nSL]; exact kp _ _ r2, by rw [List.map_append]; exact upd_same, by rw [upd_ne nLD.symm]; exact kp _ _ d2, ?_, Same.write (s2.trans kp) HL, hgo2, by rw [List.length_append, hacc]; rfl⟩
                refine TupAt.snoc ⟨?_, .inl ⟨_, rfl⟩⟩ ?_
                · rw [upd_ne nLp.symm, esg]
                  exact upd_same
                · exact tupW (fun xs z => by cases z) (kp _ _ l2) (t2.keep kp)
            · refine ⟨_, rfl, .int n, .ty "str", .type "int", .type "str", false, rfl, .ty _, .base (.int _), rfl, _, rfl, ?_⟩
              refine iteF ?_
              have l2 := l1
              have r2 := r1
              have t2 := t1'
              have s2 := s1q
              have d2 : upd G q (.tup [.str "+", .str "-"]) D = some (.dK (usedL (acc ++ [(sgn s1, .int n)]))) := by
                rw [usedL_add]
                show _ = some (HO.dK (usedL acc ++ []))
                rw [List.append_nil]
                exact d1
              refine ⟨_, rfl, .inl ⟨rfl, _, SqL.of l2⟩, _, rfl, _, rfl, S, _, _, _, rfl, rfl, SqL.of r2, c1, rfl, _, rfl, ?_⟩
              by_cases e : s1 = "+"
              · refine ifT3 (decide_eq_true (congrArg V.str e)) ?_
                refine ⟨_, rfl, (by show 2 ≤ sizeLine; decide), fun p np => ?_⟩
                have kp := Same.new (o := .tup [.int (1), (.int n)]) np
                have nLp : L ≠ p := ne_of_none l2 np
                have nSp : S ≠ p := ne_of_none r2 np
                have nDp : D ≠ p := ne_of_none d2 np
                refine ⟨L, _, _, rfl, rfl, kp _ _ l2, small1000 (by rw [List.length_map, hTl]; omega), ?_⟩
                have esg : sgn s1 = 1 := by
                  unfold sgn
                  rw [if_pos e]
                refine ⟨acc ++ [(sgn s1, (.int n))], ts ++ [p], _, _, rfl, by rw [upd_ne nSL]; exact kp _ _ r2, by rw [List.map_append]; exact upd_same, by rw [upd_ne nLD.symm]; exact kp _ _ d2, ?_, Same.write (s2.trans kp) HL, hgo2, by rw [List.length_append, hacc]; rfl⟩
                refine TupAt.snoc ⟨?_, .inr ⟨_, rfl⟩⟩ ?_
                · rw [upd_ne nLp.symm, esg]
                  exact upd_same
                · exact tupW (fun xs z => by cases z) (kp _ _ l2) (t2.keep kp)
              · refine ifF3 (decide_eq_false fun z => e (V.str.inj z)) ?_
                refine ⟨1, rfl, _, rfl, (by show 2 ≤ sizeLine; decide), fun p np => ?_⟩
                have kp := Same.new (o := .tup [.int (-1), (.int n)]) np
                have nLp : L ≠ p := ne_of_none l2 np
                have nSp : S ≠ p := ne_of_none r2 np
                have nDp : D ≠ p := ne_of_none d2 np
                refine ⟨L, _, _, rfl, rfl, kp _ _ l2, small1000 (by rw [List.length_map, hTl]; omega), ?_⟩
                have esg : sgn s1 = -1 := by
                  unfold sgn
                  rw [if_neg e]
                refine ⟨acc ++ [(sgn s1, (.int n))], ts ++ [p], _, _, rfl, by rw [upd_ne nSL]; exact kp _ _ r2, by rw [List.map_append]; exact upd_same, by rw [upd_ne nLD.symm]; exact kp _ _ d2, ?_, Same.write (s2.trans kp) HL, hgo2, by rw [List.length_append, hacc]; rfl⟩
                refine TupAt.snoc ⟨?_, .inr ⟨_, rfl⟩⟩ ?_
                · rw [upd_ne nLp.symm, esg]
                  exact upd_same
                · exact tupW (fun xs z => by cases z) (kp _ _ l2) (t2.keep kp)
      · rw [decide_eq_false hs] at bad ⊢
        refine iteT ?_
        refine iteT ?_
        refine bad _ s1q ?_
        cases termV t1 ns <;> rfl
    · rintro σ G ⟨acc, ts, v5, v6, rfl, hS, hL, hD, hT, hH, hgo, hacc⟩
      refine ⟨_, rfl, L, _, rfl, .inl ⟨SqL.of hL, fun q nq => ?_⟩⟩
      have hq := Same.new (o := .tup (ts.map V.ref)) nq
      refine k _ _ (hH.trans hq) ?_
      rw [hsum, hgo, List.drop_eq_nil_of_le (by rw [prs_len, List.length_cons]; exact Nat.le_refl _)]
      exact ⟨(by intro z; cases z), .tup (SqT.of upd_same) ((hT.keep hq).dp)⟩
end
end K02

set_option Elab.async false
set_option linter.all false
set_option maxRecDepth 100000
set_option maxHeartbeats 8000000
/-! Texts, c: comparisons, parts -/
namespace K02
open PySem L2
def ResD (K : PySem.W.Frag) (H : Hp) (v : V) : Option PyData → Prop
  | none => v = .non
  | some d => v ≠ .non ∧ TDp K H v d
def cmps : List Str := ["<", "<=", "is"]
def compM (ws ns : List Str) : Option PyData := match ws with
  | [x, c, y] => if c ∈ cmps ∧ x ≠ y then (match termV x ns, termV y ns with
    | some u, some v => some (.tuple [.str c, datV u, datV v])
    | _, _ => none) else none
  | _ => none
def spComp (K : PySem.W.Frag) : Sp := fun vs H Q _ => ∃ (a t : Addr) (ws ns : List Str), vs = [.ref a, .ref t] ∧ SqL K H a (ws.map V.str) ∧ SqT K H t (ns.map V.str) ∧ (∀ w ∈ ws, w.length ≤ 1000 ∧ NumOk w) ∧
  ∀ (v : V) (H' : Hp), Same H H' → ResD K H' v (compM ws ns) → Q v H'
/-- words, parted where «and» stands: what is done, what is open -/
def partStep (p : List (List Str) × List Str) (w : Str) : List (List Str) × List Str := if w = "and" then (p.1 ++ [p.2], []) else (p.1, p.2 ++ [w])
def partGo (ws : List Str) : List (List Str) × List Str := ws.foldl partStep ([], [])
def partM (ws : List Str) : List (List Str) := (partGo ws).1 ++ [(partGo ws).2]
/-- lists of words stand -/
def ListsAt (H : Hp) : List Addr → List (List Str) → Prop := Paired fun r l => H r = some (.lst (l.map V.str))
theorem ListsAt.keep {H H' : Hp} (s : Same H H') : ∀ {rs : List Addr} {ls : List (List Str)}, ListsAt H rs ls → ListsAt H' rs ls
  | _, _, .nil => .nil
  | _, _, .cons h r => .cons (s _ _ h) (ListsAt.keep s r)
theorem ListsAt.write {H : Hp} {a : Addr} {o : HO} : ∀ {rs : List Addr} {ls : List (List Str)}, ListsAt H rs ls → a ∉ rs → ListsAt (upd H a o) rs ls
  | _, _, .nil, _ => .nil
  | _, _, .cons h r, ha => .cons (by rw [upd_ne (fun z => ha (by rw [z]; exact List.mem_cons_self ..))]; exact h) (ListsAt.write r fun z => ha (List.mem_cons_of_mem _ z))
theorem ListsAt.snoc {H : Hp} {r : Addr} {l : List Str} (h : H r = some (.lst (l.map V.str))) : ∀ {rs : List Addr} {ls : List (List Str)}, ListsAt H rs ls → ListsAt H (rs ++ [r]) (ls ++ [l])
  | _, _, .nil => .cons h .nil
  | _, _, .cons h1 t => .cons h1 (ListsAt.snoc h t)
theorem ListsAt.get {H : Hp} {r : Addr} : ∀ {rs : List Addr} {ls : List (List Str)} {i : Nat}, ListsAt H rs ls → rs[i]? = some r → ∃ l, ls[i]? = some l ∧ H r = some (.lst (l.map V.str))
  | _, _, i, .nil, e => by simp at e
  | _, _, 0, .cons h t, e => by
    simp at e
    subst e
    exact ⟨_, by simp, h⟩
  | _, _, i + 1, .cons h t, e => by
    simp only [List.getElem?_cons_succ] at e ⊢
    exact ListsAt.get t e
theorem ListsAt.there {H : Hp} {a : Addr} : ∀ {rs : List Addr} {ls : List (List Str)}, ListsAt H rs ls → a ∈ rs → ∃ o, H a = some o
  | _, _, .nil, z => nomatch z
  | _, _, .cons h t, z => by
    rcases List.mem_cons.mp z with e | e
    · exact ⟨_, by rw [e]; exact h⟩
    · exact ListsAt.there t e
def spParted (K : PySem.W.Frag) : Sp := fun vs H Q _ => ∃ (a : Addr) (ws : List Str), vs = [.ref a] ∧ SqL K H a (ws.map V.str) ∧ ws.length ≤ 1000 ∧
  ∀ (p : Addr) (rs : List Addr) (H' : Hp), Same H H' → H' p = some (.lst (rs.map V.ref)) → ListsAt H' rs (partM ws) → Q (.ref p) H'
structure TxtT (K : PySem.W.Frag) (mg : Str → Option Value) : Prop where
  comp : ∃ c, mg "COMPARISONS" = some (.ref c) ∧ ∀ H, SqT K H c (cmps.map V.str)
theorem take_more {α : Type} : ∀ {l : List α} {i : Nat} {x : α}, l[i]? = some x → l.take (i + 1) = l.take i ++ [x]
  | [], i, x, h => by simp at h
  | a :: l, 0, x, h => by
    have e : a = x := Option.some.inj h
    subst e
    rfl
  | a :: l, i + 1, x, h => by
    have ih := take_more (l := l) (i := i) (x := x) h
    show a :: l.take (i + 1) = a :: l.take i ++ [x]
    rw [ih]
    rfl
section
variable {P : Program} {w : World} {K : PySem.W.Frag} {mg : Str → Option Value} {base : Heap}
theorem scComp : FnScope ["words", "names", "left", "right"] ["words", "names"] (defScope sComp) := ⟨rfl, rfl, rfl, by decide +kernel, rfl, by decide +kernel, by decide +kernel⟩
theorem ok_comp {f fT : Addr} {fd fdT : FuncData} (F : Fun K "comparison_in" "comparison_in" sComp f fd) (T : TxtN mg) (U : TxtT K mg) (GT : FnOk P w K mg base CX0 2 fT fdT ["word", "names"] (spTerm K)) (kT : PySem.W.keepIn K (.ref fT) = true) (bT : Binds K fdT ["word", "names"] []) (gT : mg "term_in" = some (.ref fT)) : FnOk P w K mg base CX0 3 f fd ["words", "names"] (spComp K) := by
  obtain ⟨c, hc, hC⟩ := U.comp
  refine F.ok scComp (fun vs H Q E h => ?_) (fun cdv A outer s H vs Q E hr h => ?_)
  · obtain ⟨a, t, ws, ns, rfl, _⟩ := h
    rfl
  · obtain ⟨a, t, ws, ns, rfl, ha, ht, hok, k⟩ := h
    refine ⟨_, pss_cons (ps_if (PW.pt (pw_or (pt_cmpR op_ne (pe_callB call_len_seq (by rfl) T.len PySem.boot_len (pa_cons (pv 0) pa_nil)) pe_int (nomark _)) (pw_or (pt_cmpR op_notIn_seq (pe_ix ix_list (pv 0) pe_int (fun _ _ => rfl)) (pe_glob (v := .ref c) (by rfl) hc rfl) (by rfl)) (pw_or1 (pt_cmpR op_eq (pe_ix ix_list (pv 0) pe_int (fun _ _ => rfl)) (pe_ix ix_list (pv 0) pe_int (fun _ _ => rfl)) (nomark _)))))) (pss_one (ps_ret pe_non)) pss_nil)
      (pss_cons (ps_set (i := 2) scComp.nd rfl (Or.inl rfl) (pe_call GT hr rfl gT kT bT .nil pass0 (pa_cons (pe_ix ix_list (pv 0) pe_int (fun _ _ => rfl)) (pa_cons (pv 1) pa_nil))))
      (pss_cons (ps_set (i := 3) scComp.nd rfl (Or.inl rfl) (pe_call GT hr rfl gT kT bT .nil pass0 (pa_cons (pe_ix ix_list (pv 0) pe_int (fun _ _ => rfl)) (pa_cons (pv 1) pa_nil))))
      (pss_cons (ps_if (PW.pt (pw_or (pt_cmpR op_isN (pv 2) pe_non (nomark _)) (pw_or1 (pt_cmpR op_isN (pv 3) pe_non (nomark _))))) (pss_one (ps_ret pe_non)) pss_nil)
      (pss_one (ps_ret (pe_tup (pa_cons (pe_ix ix_list (pv 0) pe_int (fun _ _ => rfl)) (pa_cons (pv 2) (pa_cons (pv 3) pa_nil))))))))), ?_⟩
    have out : compM ws ns = none → Q .non H := fun z => k .non H (Same.refl H) (by rw [z]; rfl)
    refine ⟨_, rfl, a, _, rfl, .inl ha, rfl, _, rfl, ?_⟩
    refine ite2 (fun h3 => ?_) (fun h3 => ?_)
    · refine iteT ?_
      refine out ?_
      unfold compM
      split
      · exfalso
        simp at h3
      · rfl
    have hl3 : ws.length = 3 := by
      have z := h3
      simp at z
      have z2 := z
      omega
    obtain ⟨x, c', y, rfl⟩ : ∃ x c' y, ws = [x, c', y] := by
      match ws, hl3 with
      | [x, c', y], _ => exact ⟨x, c', y, rfl⟩
    have i0 : atI ([x, c', y].map V.str) 0 = some (.str x) := atI_nat (j := 0) rfl
    have i1 : atI ([x, c', y].map V.str) 1 = some (.str c') := atI_nat (j := 1) rfl
    have i2 : atI ([x, c', y].map V.str) 2 = some (.str y) := atI_nat (j := 2) rfl
    refine ⟨_, rfl, a, _, 1, _, rfl, rfl, ha, i1, c, _, rfl, .inr (hC _), rfl, flat_str cmps, ?_⟩
    rw [if_pos rfl, inV_str]
    refine ⟨_, rfl, ?_⟩
    by_cases hcm : c' ∈ cmps
    case neg =>
      rw [decide_eq_false hcm]
      refine iteT ?_
      refine iteT ?_
      refine out ?_
      show (if c' ∈ cmps ∧ x ≠ y then _ else none) = none
      rw [if_neg fun z => hcm z.1]
    rw [decide_eq_true hcm]
    refine iteF ?_
    refine ⟨_, rfl, a, _, 0, _, rfl, rfl, ha, i0, _, rfl, a, _, 2, _, rfl, rfl, ha, i2, rfl, _, rfl, ?_⟩
    refine ite2 (fun hxy => ?_) (fun hxy => ?_)
    · refine out ?_
      have e : x = y := V.str.inj (of_decide_eq_true hxy)
      show (if c' ∈ cmps ∧ x ≠ y then _ else none) = none
      rw [if_neg fun z => z.2 e]
    have hxy' : x ≠ y := fun e => hxy (decide_eq_true (congrArg V.str e))
    have hM : compM [x, c', y] ns = (match termV x ns, termV y ns with
      | some u, some v => some (.tuple [.str c', datV u, datV v])
      | _, _ => none) := by
      show (if c' ∈ cmps ∧ x ≠ y then _ else none) = _
      rw [if_pos ⟨hcm, hxy'⟩]
    have ox := hok x (by simp)
    have oy := hok y (by simp)
    refine ⟨_, rfl, a, _, 0, _, rfl, rfl, ha, i0, _, rfl, x, t, ns, rfl, ox.1, ox.2, ht, ?_⟩
    refine ⟨_, rfl, a, _, 2, _, rfl, rfl, ha, i2, _, rfl, y, t, ns, rfl, oy.1, oy.2, ht, ?_⟩
    refine ⟨_, rfl, rfl, _, rfl, ?_⟩
    cases hvx : termV x ns with
    | none =>
      refine iteT ?_
      refine iteT ?_
      refine out ?_
      rw [hM, hvx]
    | some u =>
      have itu := term_is hvx
      have nu : decide (optV (some u) = V.non) = false := decide_eq_false (by
        rcases itu with ⟨x, rfl⟩ | ⟨n, rfl⟩
        · intro z; cases z
        · intro z; cases z)
      refine ifF3 nu ?_
      refine ⟨_, rfl, rfl, _, rfl, ?_⟩
      cases hvy : termV y ns with
      | none =>
        refine iteT ?_
        refine out ?_
        rw [hM, hvx, hvy]
      | some v =>
        have itv := term_is hvy
        have nv : decide (optV (some v) = V.non) = false := decide_eq_false (by
          rcases itv with ⟨x, rfl⟩ | ⟨n, rfl⟩
          · intro z; cases z
          · intro z; cases z)
        refine ifF3 nv ?_
        refine ⟨_, rfl, a, _, 1, _, rfl, rfl, ha, i1, _, rfl, _, rfl, (by show 3 ≤ sizeLine; decide), fun p np => ?_⟩
        refine k _ _ (Same.new np) ?_
        rw [hM, hvx, hvy]
        exact ⟨(by intro z; cases z), .tup (SqT.of upd_same) (.cons (.str _) (.cons (dat_dp itu) (.cons (dat_dp itv) .nil)))⟩
theorem scParted : FnScope ["words", "parts", "word"] ["words"] (defScope sPart) := ⟨rfl, rfl, rfl, by decide +kernel, rfl, by decide +kernel, by decide +kernel⟩
theorem ok_parted {f : Addr} {fd : FuncData} (F : Fun K "parted" "parted" sPart f fd) : FnOk P w K mg base CX0 1 f fd ["words"] (spParted K) := by
  refine F.ok scParted (fun vs H Q E h => ?_) (fun cdv A outer s H vs Q E hr h => ?_)
  · obtain ⟨a, ws, rfl, _⟩ := h
    rfl
  · obtain ⟨a, ws, rfl, ha, hlen, k⟩ := h
    refine ⟨_, pss_cons (ps_set (i := 1) scParted.nd rfl (Or.inl rfl) (pe_lst (pa_cons (pe_lst pa_nil) pa_nil)))
      (pss_cons (ps_for PassesOwn.never rfl (pi_list (pv 0)) (pg_name (i := 2) scParted.nd rfl (Or.inl rfl))
        (pss_one (ps_if (pt_cmpR op_eq (pv 2) pe_str (nomark _))
          (pss_one (ps_expr (pe_bm PySem.F.plainAttrs_list PySem.F.slot_list_append PySem.F.type_list_append mt_append (pv 1) (pa_cons (pe_lst pa_nil) pa_nil))))
          (pss_one (ps_expr (pe_bm PySem.F.plainAttrs_list PySem.F.slot_list_append PySem.F.type_list_append mt_append (pe_ix ix_list (pv 1) (pe_un un_neg pe_int) (fun _ _ => rfl)) (pa_cons (pv 2) pa_nil)))))))
      (pss_one (ps_ret (pv 1)))), ?_⟩
    refine ⟨(by show 0 ≤ sizeLine; decide), fun l0 n0 => ⟨(by show 1 ≤ sizeLine; decide), fun p np => ?_⟩⟩
    have s0 := Same.new (o := .lst []) n0
    have s1 := s0.trans (Same.new (o := .lst [.ref l0]) np)
    have npl : p ≠ l0 := fun e => by rw [e, upd_same] at np; cases np
    have Hp0 : H p = none := s0.free np
    refine ⟨_, rfl, a, rfl, ⟨_, s1.seq ha⟩, for_list (K := K) (a := a) (xs := ws.map V.str)
      (fun i σ G => ∃ (ds : List Addr) (r : Addr) (v : Option V), σ = [some (.ref a), some (.ref p), v] ∧ Same H G ∧ G p = some (.lst ((ds ++ [r]).map V.ref)) ∧ ListsAt G ds (partGo (ws.take i)).1 ∧ G r = some (.lst ((partGo (ws.take i)).2.map V.str)) ∧ r ∉ ds ∧ p ∉ ds ∧ p ≠ r ∧ H r = none ∧ ds.length + (partGo (ws.take i)).2.length ≤ i)
      ⟨[], l0, none, rfl, s1, upd_same, .nil, by rw [upd_ne npl.symm]; exact upd_same, by simp, by simp, npl, n0, by simp [partGo]⟩ (fun i σ G _ ⟨_, _, _, _, e, _⟩ => e.seq ha) ?_ ?_⟩
    · rintro i y σ G hi ⟨ds, r, v, rfl, hH, hp, hds, hr', rds, pds, pr, Hr, hcnt⟩
      obtain ⟨x, hx, rfl⟩ : ∃ x, ws[i]? = some x ∧ y = V.str x := by
        rw [List.getElem?_map] at hi
        cases e : ws[i]? with
        | none => rw [e] at hi; cases hi
        | some x => rw [e] at hi; exact ⟨x, rfl, (Option.some.inj hi).symm⟩
      have hil : i < ws.length := (List.getElem?_eq_some_iff.mp hx).1
      have hgo : partGo (ws.take (i + 1)) = partStep (partGo (ws.take i)) x := by
        unfold partGo
        rw [take_more hx, List.foldl_append]
        rfl
      refine ⟨_, rfl, rfl, _, rfl, ?_⟩
      refine ite2 (fun hand => ?_) (fun hand => ?_)
      · have e : x = "and" := V.str.inj (of_decide_eq_true hand)
        have hst : partStep (partGo (ws.take i)) x = ((partGo (ws.take i)).1 ++ [(partGo (ws.take i)).2], []) := if_pos e
        refine ⟨_, rfl, .inl ⟨rfl, _, SqL.of hp⟩, (by show 0 ≤ sizeLine; decide), fun q nq => ?_⟩
        have sq := Same.new (o := .lst []) nq
        have Hq : H q = none := hH.free nq
        have npq : p ≠ q := ne_of_none hp nq
        have nrq : r ≠ q := ne_of_none hr' nq
        refine ⟨p, _, _, rfl, rfl, sq _ _ hp, small1000 (by rw [List.length_map, List.length_append]; show ds.length + 1 ≤ 1000; omega), ?_⟩
        refine ⟨ds ++ [r], q, _, rfl, Same.write (hH.trans sq) Hp0, ?_, ?_, ?_, ?_, ?_, npq, Hq, ?_⟩
        · rw [List.map_append (l₂ := [q])]
          exact upd_same
        · rw [hgo, hst]
          exact ((ListsAt.snoc (sq _ _ hr') (hds.keep sq))).write (by
            intro z
            rcases List.mem_append.mp z with z | z
            · exact pds z
            · exact pr (List.mem_singleton.mp z))
        · rw [hgo, hst, upd_ne npq.symm]
          exact upd_same
        · intro z
          rcases List.mem_append.mp z with z | z
          · obtain ⟨o, ho⟩ := hds.there z
            rw [nq] at ho
            cases ho
          · exact nrq (List.mem_singleton.mp z).symm
        · intro z
          rcases List.mem_append.mp z with z | z
          · exact pds z
          · exact pr (List.mem_singleton.mp z)
        · rw [hgo, hst, List.length_append]
          show ds.length + 1 + 0 ≤ i + 1
          omega
      · have e : ¬ x = "and" := fun z => hand (decide_eq_true (congrArg V.str z))
        have hst : partStep (partGo (ws.take i)) x = ((partGo (ws.take i)).1, (partGo (ws.take i)).2 ++ [x]) := if_neg e
        refine ⟨_, rfl, 1, rfl, p, _, -1, .ref r, rfl, rfl, SqL.of hp, ?_, ?_⟩
        · rw [List.map_append]
          exact atI_last ..
        refine ⟨.inl ⟨rfl, _, SqL.of hr'⟩, _, rfl, r, _, _, rfl, rfl, hr', small1000 (by rw [List.length_map]; omega), ?_⟩
        refine ⟨ds, r, _, rfl, Same.write hH Hr, by rw [upd_ne pr]; exact hp, ?_, ?_, rds, pds, pr, Hr, ?_⟩
        · rw [hgo, hst]
          exact hds.write rds
        · rw [hgo, hst, List.map_append]
          exact upd_same
        · rw [hgo, hst, List.length_append]
          show ds.length + ((partGo (ws.take i)).2.length + 1) ≤ i + 1
          omega
    · rintro σ G ⟨ds, r, v, rfl, hH, hp, hds, hr', rds, pds, pr, Hr, hcnt⟩
      rw [List.length_map, List.take_length] at hds hr'
      refine ⟨_, rfl, k p (ds ++ [r]) G hH hp ?_⟩
      unfold partM
      exact ListsAt.snoc hr' hds
end
end K02

set_option Elab.async false
set_option linter.all false
set_option maxRecDepth 100000
set_option maxHeartbeats 8000000
/-! Texts, d: tests -/
namespace K02
open PySem L2
/-- a word as it may stand in a text -/
structure WOk (w : Str) : Prop where
  len : w.length ≤ 1000
  num : NumOk w
  sig : PyData.canLay0 (.str w) = true
def WsOk (ws : List Str) : Prop := ∀ w ∈ ws, WOk w
theorem WsOk.two {ws : List Str} (h : WsOk ws) : ∀ w ∈ ws, w.length ≤ 1000 ∧ NumOk w := fun w hw => ⟨(h w hw).len, (h w hw).num⟩
theorem layAll : ∀ {ws : List Str}, WsOk ws → PyData.canLayAll0 (ws.map PyData.str) = true
  | [], _ => rfl
  | w :: ws, h => by
    rw [List.map_cons]
    rw [PyData.canLayAll0, Bool.and_eq_true]
    exact ⟨(h w (List.mem_cons_self ..)).sig, layAll fun x hx => h x (List.mem_cons_of_mem _ hx)⟩
theorem depAll : ∀ ws : List Str, PyData.depthAll (ws.map PyData.str) = 0
  | [] => rfl
  | w :: ws => by
    rw [List.map_cons]
    simp only [PyData.depthAll, PyData.depth, depAll ws]
    decide
theorem shapedWs {ws : List Str} (h : WsOk ws) : SeqAt.shaped (.list (ws.map PyData.str)) = true := by
  unfold SeqAt.shaped
  have h1 : (PyData.list (ws.map PyData.str)).canLay0 = true := by
    simp only [PyData.canLay0]
    exact layAll h
  have h2 : (PyData.list (ws.map PyData.str)).depth ≤ 64 := by
    simp only [PyData.depth, depAll]
    decide
  rw [h1, decide_eq_true h2]
  rfl
theorem eqvWs : ∀ (ws us : List Str), PyData.eqvAll (ws.map PyData.str) (us.map PyData.str) = decide (ws = us)
  | [], [] => rfl
  | [], u :: us => by simp [PyData.eqvAll]
  | w :: ws, [] => by simp [PyData.eqvAll]
  | w :: ws, u :: us => by
    rw [List.map_cons, List.map_cons, PyData.eqvAll, eqvWs ws us]
    by_cases e : w = u
    · subst e
      by_cases e2 : ws = us
      · subst e2
        simp [PyData.eqv]
      · simp [PyData.eqv, e2]
    · simp [PyData.eqv, e]
theorem eqvL (ws us : List Str) : PyData.eqv (.list (ws.map PyData.str)) (.list (us.map PyData.str)) = decide (ws = us) := by
  rw [PyData.eqv]
  exact eqvWs ws us
theorem dpWs {K : PySem.W.Frag} {H : Hp} : ∀ ws : List Str, DpAll K H (ws.map V.str) (ws.map PyData.str)
  | [] => .nil
  | w :: ws => .cons (.str w) (dpWs ws)
theorem cut_hi (ws : List Str) (n : Nat) : cutV (ws.map V.str) none (some (n : Int)) = (ws.take n).map V.str := by
  unfold cutV
  rw [HT.sIx_nat, HT.sIx_none, List.length_map, Nat.sub_zero, List.drop_zero, List.map_take]
  rcases Nat.le_total n ws.length with h | h
  · rw [Nat.min_eq_left h]
  · rw [Nat.min_eq_right h, List.take_of_length_le (by rw [List.length_map]; exact Nat.le_refl _), List.take_of_length_le (by rw [List.length_map]; exact h)]
theorem cut_lo (ws : List Str) (n : Nat) : cutV (ws.map V.str) (some (n : Int)) none = (ws.drop n).map V.str := by
  unfold cutV
  rw [HT.sIx_nat, HT.sIx_none, List.length_map, List.map_drop]
  rw [List.take_of_length_le (by rw [List.length_drop, List.length_map]; exact Nat.le_refl _)]
  rcases Nat.le_total n ws.length with h | h
  · rw [Nat.min_eq_left h]
  · rw [Nat.min_eq_right h, List.drop_of_length_le (by rw [List.length_map]; exact Nat.le_refl _), List.drop_of_length_le (by rw [List.length_map]; exact h)]
/-! ### the tests -/
/-- one part of a test -/
def partD (pm : List Str → Option PyData) (part : List Str) : Option PyData := (pm (if part.take 1 ≠ [("not" : Str)] then part else part.drop 1)).map fun d => .tuple [.bool (decide (part.take 1 ≠ [("not" : Str)])), d]
def partsGo (pm : List Str → Option PyData) : List (List Str) → List PyData → Option (List PyData)
  | [], acc => some acc
  | p :: r, acc => match partD pm p with
    | none => none
    | some d => partsGo pm r (acc ++ [d])
def testM (pm : List Str → Option PyData) (ws : List Str) : Option PyData := if 4 < (partM ws).length then none else (partsGo pm (partM ws) []).map .tuple
def spPartIn (K : PySem.W.Frag) (kinds : List Str) (pm : Str → List Str → Option PyData) : Sp := fun vs H Q _ => ∃ (a : Addr) (ws : List Str) (kd : Str), vs = [.ref a, .str kd] ∧ kd ∈ kinds ∧ SqL K H a (ws.map V.str) ∧ WsOk ws ∧ ws.length ≤ 1000 ∧
  ∀ (v : V) (H' : Hp), Same H H' → ResD K H' v (pm kd ws) → Q v H'
def spTestIn (K : PySem.W.Frag) (fP : Addr) (kinds : List Str) (pm : Str → List Str → Option PyData) : Sp := fun vs H Q _ => ∃ (a : Addr) (ws : List Str) (kd : Str), vs = [.ref a, .ref fP, .str kd] ∧ kd ∈ kinds ∧ SqL K H a (ws.map V.str) ∧ WsOk ws ∧ ws.length ≤ 1000 ∧
  ∀ (v : V) (H' : Hp), Same H H' → ResD K H' v (testM (pm kd) ws) → Q v H'
theorem partGo_mem (ws : List Str) : ∀ (p : List (List Str) × List Str), (∀ l ∈ p.1, ∀ w ∈ l, WOk w) → (∀ w ∈ p.2, WOk w) → WsOk ws → (∀ l ∈ (ws.foldl partStep p).1, ∀ w ∈ l, WOk w) ∧ ∀ w ∈ (ws.foldl partStep p).2, WOk w := by
  induction ws with
  | nil => intro p h1 h2 _; exact ⟨h1, h2⟩
  | cons w ws ih =>
    intro p h1 h2 hw
    rw [List.foldl_cons]
    refine ih _ ?_ ?_ fun x hx => hw x (List.mem_cons_of_mem _ hx)
    · unfold partStep
      split
      · intro l hl
        rcases List.mem_append.mp hl with z | z
        · exact h1 l z
        · rw [List.mem_singleton.mp z]
          exact h2
      · exact h1
    · unfold partStep
      split
      · intro x hx
        cases hx
      · intro x hx
        rcases List.mem_append.mp hx with z | z
        · exact h2 x z
        · rw [List.mem_singleton.mp z]
          exact hw w (List.mem_cons_self ..)
theorem partM_ok {ws : List Str} (h : WsOk ws) : ∀ l ∈ partM ws, WsOk l := by
  obtain ⟨h1, h2⟩ := partGo_mem ws ([], []) (by simp) (by simp) h
  intro l hl
  unfold partM at hl
  rcases List.mem_append.mp hl with z | z
  · exact h1 l z
  · rw [List.mem_singleton.mp z]
    exact h2
theorem partGo_len (ws : List Str) : ∀ (p : List (List Str) × List Str) (n : Nat), (∀ l ∈ p.1, l.length ≤ n) → p.2.length ≤ n → (∀ l ∈ (ws.foldl partStep p).1, l.length ≤ n + ws.length) ∧ (ws.foldl partStep p).2.length ≤ n + ws.length := by
  induction ws with
  | nil => intro p n h1 h2; exact ⟨h1, h2⟩
  | cons w ws ih =>
    intro p n h1 h2
    rw [List.foldl_cons]
    have := ih (partStep p w) (n + 1) (by
      unfold partStep
      split
      · intro l hl
        rcases List.mem_append.mp hl with z | z
        · exact Nat.le_succ_of_le (h1 l z)
        · rw [List.mem_singleton.mp z]
          exact Nat.le_succ_of_le h2
      · intro l hl
        exact Nat.le_succ_of_le (h1 l hl)) (by
      unfold partStep
      split
      · exact Nat.zero_le _
      · rw [List.length_append]
        exact Nat.succ_le_succ h2)
    rw [List.length_cons]
    refine ⟨fun l hl => by have := this.1 l hl; omega, by have := this.2; omega⟩
theorem partM_len {ws : List Str} : ∀ l ∈ partM ws, l.length ≤ ws.length := by
  obtain ⟨h1, h2⟩ := partGo_len ws ([], []) 0 (by simp) (by simp)
  intro l hl
  unfold partM at hl
  rcases List.mem_append.mp hl with z | z
  · have := h1 l z
    unfold partGo at z
    omega
  · rw [List.mem_singleton.mp z]
    unfold partGo
    omega
section
variable {P : Program} {w : World} {K : PySem.W.Frag} {mg : Str → Option Value} {base : Heap}
theorem scTest : FnScope ["words", "part_in", "kind", "parts", "test", "part", "wanted", "read"] ["words", "part_in", "kind"] (defScope sTest) := ⟨rfl, rfl, rfl, by decide +kernel, rfl, by decide +kernel, by decide +kernel⟩
theorem ok_test {f fP fD : Addr} {fd fdP fdD : FuncData} {k : Nat} {kinds : List Str} {pm : Str → List Str → Option PyData} (F : Fun K "test_in" "test_in" sTest f fd) (T : TxtN mg)
    (GD : FnOk P w K mg base CX0 1 fD fdD ["words"] (spParted K)) (kD : PySem.W.keepIn K (.ref fD) = true) (bD : Binds K fdD ["words"] []) (gD : mg "parted" = some (.ref fD))
    (hk : 1 ≤ k) (GP : FnOk P w K mg base CX0 k fP fdP ["words", "kind"] (spPartIn K kinds pm)) (kP : PySem.W.keepIn K (.ref fP) = true) (bP : Binds K fdP ["words", "kind"] []) : FnOk P w K mg base CX0 (k + 1) f fd ["words", "part_in", "kind"] (spTestIn K fP kinds pm) := by
  obtain ⟨tk, hparts⟩ := T.parts
  refine F.ok scTest (fun vs H Q E h => ?_) (fun cdv A outer s H vs Q E hr h => ?_)
  · obtain ⟨a, ws, kd, rfl, _⟩ := h
    rfl
  · obtain ⟨a, ws, kd, rfl, hkd, ha, hok, hlen, kk⟩ := h
    have hr1 : Room 1 _ := hr.mono hk
    refine ⟨_, pss_cons (ps_set (i := 3) scTest.nd rfl (Or.inl rfl) (pe_call GD hr1 rfl gD kD bD .nil pass0 (pa_cons (pv 0) pa_nil)))
      (pss_cons (ps_if (pt_cmpR op_gt (pe_callB call_len_seq (by rfl) T.len PySem.boot_len (pa_cons (pv 3) pa_nil)) (pe_glob (v := .int 4) (by rfl) hparts ⟨tk, rfl⟩) (nomark _)) (pss_one (ps_ret pe_non)) pss_nil)
      (pss_cons (ps_set (i := 4) scTest.nd rfl (Or.inl rfl) (pe_lst pa_nil))
      (pss_cons (ps_for PassesOwn.never rfl (pi_list (pv 3)) (pg_name (i := 5) scTest.nd rfl (Or.inl rfl))
        (pss_cons (ps_set (i := 6) scTest.nd rfl (Or.inl rfl) (pe_cmpR (op_neD hr.units) (pe_slice sl_list (pv 5) po_none (po_some pe_int)) (pe_lst (pa_cons pe_str pa_nil)) (nomark _)))
        (pss_cons (ps_set (i := 7) scTest.nd rfl (Or.inl rfl) (pe_callL (i := 1) GP hr rfl (Or.inl rfl) kP bP .nil pass0 (pa_cons (pe_ifExp (pt_val (pv 6)) (pv 5) (pe_slice sl_list (pv 5) (po_some pe_int) po_none)) (pa_cons (pv 2) pa_nil))))
        (pss_cons (ps_if (pt_cmpR op_isN (pv 7) pe_non (nomark _)) (pss_one (ps_ret pe_non)) pss_nil)
        (pss_one (ps_expr (pe_bm PySem.F.plainAttrs_list PySem.F.slot_list_append PySem.F.type_list_append mt_append (pv 4) (pa_cons (pe_tup (pa_cons (pv 6) (pa_cons (pv 7) pa_nil))) pa_nil))))))))
      (pss_one (ps_ret (pe_callTy call_tuple_of (by rfl) T.tuple (by decide +kernel) (pa_cons (pv 4) pa_nil))))))), ?_⟩
    refine ⟨_, rfl, a, ws, rfl, ha, hlen, fun p rs H1 s1 hp hrs => ?_⟩
    have hn : rs.length = (partM ws).length := Paired.length hrs
    refine ⟨_, rfl, p, _, rfl, .inl (SqL.of hp), _, _, rfl, rfl, _, rfl, ?_⟩
    refine ite2 (fun h4 => ?_) (fun h4 => ?_)
    · have h4' := of_decide_eq_true h4
      rw [List.length_map, hn] at h4'
      refine kk _ _ s1 ?_
      unfold testM
      rw [if_pos (by omega)]
      rfl
    have h4' : ¬ 4 < (partM ws).length := fun z => h4 (decide_eq_true (by rw [List.length_map, hn]; omega))
    have hM : testM (pm kd) ws = (partsGo (pm kd) (partM ws) []).map .tuple := by
      unfold testM
      rw [if_neg h4']
    refine ⟨(by show 0 ≤ sizeLine; decide), fun T0 nT => ?_⟩
    have sT := Same.new (o := .lst []) nT
    have T0p : p ≠ T0 := ne_of_none hp nT
    have H1T : H1 T0 = none := nT
    refine ⟨_, rfl, p, rfl, ⟨_, SqL.of (sT _ _ hp)⟩, for_list (K := K) (a := p) (xs := rs.map V.ref)
      (fun i σ G => ∃ (acc : List PyData) (ts : List Addr) (v5 v6 v7 : Option V), σ = [some (.ref a), some (.ref fP), some (.str kd), some (.ref p), some (.ref T0), v5, v6, v7] ∧ Same H1 G ∧ G T0 = some (.lst (ts.map V.ref)) ∧ TDpAll K G (ts.map V.ref) acc ∧ partsGo (pm kd) (partM ws) [] = partsGo (pm kd) ((partM ws).drop i) acc ∧ acc.length = i)
      ⟨[], [], none, none, none, rfl, sT, upd_same, .nil, rfl, rfl⟩ (fun i σ G _ ⟨_, _, _, _, _, _, e, _⟩ => SqL.of (e _ _ hp)) ?_ ?_⟩
    · rintro i y σ G hi ⟨acc, ts, v5, v6, v7, rfl, hG, hT, hD, hgo, hacc⟩
      obtain ⟨r, hri, rfl⟩ : ∃ r, rs[i]? = some r ∧ y = V.ref r := by
        rw [List.getElem?_map] at hi
        cases e : rs[i]? with
        | none => rw [e] at hi; cases hi
        | some x => rw [e] at hi; exact ⟨x, rfl, (Option.some.inj hi).symm⟩
      obtain ⟨l, hl, hr'⟩ := ListsAt.get hrs hri
      have lok : WsOk l := partM_ok hok l (List.mem_of_getElem? hl)
      have llen : l.length ≤ 1000 := Nat.le_trans (partM_len l (List.mem_of_getElem? hl)) hlen
      rw [drop_cons hl] at hgo
      have hil : i < rs.length := (List.getElem?_eq_some_iff.mp hri).1
      have Gr := hG _ _ hr'
      have c1 : cutV (l.map V.str) none (some 1) = (l.take 1).map V.str := cut_hi l 1
      have c2 : cutV (l.map V.str) (some 1) none = (l.drop 1).map V.str := cut_lo l 1
      refine ⟨_, rfl, _, rfl, r, _, rfl, SqL.of Gr, fun q nq => ⟨(by show 1 ≤ sizeLine; decide), fun q2 nq2 => ?_⟩⟩
      rw [c1] at nq2 ⊢
      have sq := Same.new (o := .lst ((l.take 1).map V.str)) nq
      have sq2 := Same.new (o := .lst [.str "not"]) nq2
      have lt1 : WsOk (l.take 1) := fun w hw => lok w (List.mem_of_mem_take hw)
      refine ⟨.list ((l.take 1).map PyData.str), .list ([("not" : Str)].map PyData.str), .lst (SqL.of (sq2 _ _ upd_same)) (dpWs _), .lst (SqL.of (xs := [("not" : Str)].map V.str) upd_same) (dpWs _), shapedWs lt1, by decide +kernel, ?_⟩
      rw [eqvL]
      have sG := sq.trans sq2
      have Gr2 := sG _ _ Gr
      have hT2 := sG _ _ hT
      have hD2 := hD.keep (Same.tk sG)
      have h12 := hG.trans sG
      obtain ⟨wt, hwt⟩ : ∃ wt : Bool, wt = decide (l.take 1 ≠ [("not" : Str)]) := ⟨_, rfl⟩
      have ewt : (!decide (l.take 1 = [("not" : Str)])) = wt := by
        rw [hwt]
        by_cases e : l.take 1 = [("not" : Str)] <;> simp [e]
      rw [ewt]
      have goP : partsGo (pm kd) (l :: (partM ws).drop (i + 1)) acc = match (pm kd (if l.take 1 ≠ [("not" : Str)] then l else l.drop 1)).map fun d => PyData.tuple [.bool wt, d] with
          | none => none
          | some d => partsGo (pm kd) ((partM ws).drop (i + 1)) (acc ++ [d]) := by
        rw [hwt]
        rfl
      rw [goP] at hgo
      by_cases e1 : l.take 1 = [("not" : Str)]
      · have ew : wt = false := by
          rw [hwt]
          exact decide_eq_false fun z => z e1
        subst ew
        have el : (if l.take 1 ≠ [("not" : Str)] then l else l.drop 1) = l.drop 1 := if_neg fun z => z e1
        rw [el] at hgo
        refine ⟨rfl, _, rfl, _, rfl, ?_⟩
        refine iteF ?_
        refine ⟨_, rfl, _, rfl, r, _, rfl, SqL.of Gr2, fun q3 nq3 => ?_⟩
        rw [c2]
        have s3 := Same.new (o := .lst ((l.drop 1).map V.str)) nq3
        have h13 := h12.trans s3
        have hT3 := s3 _ _ hT2
        have hD3 := hD2.keep (Same.tk s3)
        refine ⟨_, rfl, q3, l.drop 1, kd, rfl, hkd, SqL.of upd_same, (fun w hw => lok w (List.mem_of_mem_drop hw)), (by rw [List.length_drop]; omega), fun v G4 s4 res => ?_⟩
        have h4 := h13.trans s4
        have hT4 := s4 _ _ hT3
        have hD4 := hD3.keep (Same.tk s4)
        refine ⟨_, rfl, rfl, _, rfl, ?_⟩
        cases o : pm kd (l.drop 1) with
        | none =>
          rw [o] at res hgo
          refine ifT3 (decide_eq_true res) ?_
          refine kk _ _ (s1.trans h4) ?_
          rw [hM, hgo]
          rfl
        | some d =>
          rw [o] at res hgo
          have hgo2 : partsGo (pm kd) (partM ws) [] = partsGo (pm kd) ((partM ws).drop (i + 1)) (acc ++ [.tuple [.bool false, d]]) := hgo
          refine ifF3 (decide_eq_false res.1) ?_
          refine ⟨_, rfl, .inl ⟨rfl, _, SqL.of hT4⟩, _, rfl, _, rfl, (by show 2 ≤ sizeLine; decide), fun t nt => ?_⟩
          have st := Same.new (o := .tup [.bl false, v]) nt
          have hT5 := st _ _ hT4
          have nTt : T0 ≠ t := ne_of_none hT4 nt
          refine ⟨T0, _, _, rfl, rfl, hT5, small1000 (by rw [TDpAll.len hD, hacc]; omega), ?_⟩
          refine ⟨acc ++ [.tuple [.bool false, d]], ts ++ [t], _, _, _, rfl, Same.write (h4.trans st) H1T, by rw [List.map_append]; exact upd_same, ?_, hgo2, by rw [List.length_append, hacc]; rfl⟩
          rw [List.map_append]
          refine TDpAll.snoc ?_ ((hD4.keep (Same.tk st)).keep (Tk.write hT5))
          refine .tup (SqT.of ?_) (.cons (.bl _) (.cons ((res.2.keep (Same.tk st)).keep (Tk.write hT5)) .nil))
          rw [upd_ne nTt.symm]
          exact upd_same
      · have ew : wt = true := by
          rw [hwt]
          exact decide_eq_true e1
        subst ew
        have el : (if l.take 1 ≠ [("not" : Str)] then l else l.drop 1) = l := if_pos e1
        rw [el] at hgo
        refine ⟨rfl, _, rfl, _, rfl, ?_⟩
        refine iteT ?_
        refine ⟨_, rfl, _, rfl, r, l, kd, rfl, hkd, SqL.of Gr2, lok, llen, fun v G4 s4 res => ?_⟩
        have h4 := h12.trans s4
        have hT4 := s4 _ _ hT2
        have hD4 := hD2.keep (Same.tk s4)
        refine ⟨_, rfl, rfl, _, rfl, ?_⟩
        cases o : pm kd (l) with
        | none =>
          rw [o] at res hgo
          refine ifT3 (decide_eq_true res) ?_
          refine kk _ _ (s1.trans h4) ?_
          rw [hM, hgo]
          rfl
        | some d =>
          rw [o] at res hgo
          have hgo2 : partsGo (pm kd) (partM ws) [] = partsGo (pm kd) ((partM ws).drop (i + 1)) (acc ++ [.tuple [.bool true, d]]) := hgo
          refine ifF3 (decide_eq_false res.1) ?_
          refine ⟨_, rfl, .inl ⟨rfl, _, SqL.of hT4⟩, _, rfl, _, rfl, (by show 2 ≤ sizeLine; decide), fun t nt => ?_⟩
          have st := Same.new (o := .tup [.bl true, v]) nt
          have hT5 := st _ _ hT4
          have nTt : T0 ≠ t := ne_of_none hT4 nt
          refine ⟨T0, _, _, rfl, rfl, hT5, small1000 (by rw [TDpAll.len hD, hacc]; omega), ?_⟩
          refine ⟨acc ++ [.tuple [.bool true, d]], ts ++ [t], _, _, _, rfl, Same.write (h4.trans st) H1T, by rw [List.map_append]; exact upd_same, ?_, hgo2, by rw [List.length_append, hacc]; rfl⟩
          rw [List.map_append]
          refine TDpAll.snoc ?_ ((hD4.keep (Same.tk st)).keep (Tk.write hT5))
          refine .tup (SqT.of ?_) (.cons (.bl _) (.cons ((res.2.keep (Same.tk st)).keep (Tk.write hT5)) .nil))
          rw [upd_ne nTt.symm]
          exact upd_same
    · rintro σ G ⟨acc, ts, v5, v6, v7, rfl, hG, hT, hD, hgo, hacc⟩
      refine ⟨_, rfl, T0, _, rfl, .inl ⟨SqL.of hT, fun q nq => ?_⟩⟩
      have sq := Same.new (o := .tup (ts.map V.ref)) nq
      refine kk _ _ ((s1.trans hG).trans sq) ?_
      rw [hM, hgo, List.drop_eq_nil_of_le (by rw [List.length_map, hn]; exact Nat.le_refl _)]
      exact ⟨(by intro z; cases z), .tup (SqT.of upd_same) (hD.keep (Same.tk sq))⟩
end
end K02

set_option Elab.async false
set_option linter.all false
set_option maxRecDepth 100000
set_option maxHeartbeats 8000000
/-! Head codes, a: numbers behind signs, names -/
namespace K02
open PySem L2
abbrev sRun : Stmt := top 43
abbrev sNames : Stmt := top 44
abbrev sOper : Stmt := top 45
abbrev sStep : Stmt := top 46
abbrev sHPart : Stmt := top 47
abbrev sMarks : Stmt := top 48
def isRunM (n : Int) : Bool := if decide (n < 1) = true then false else if decide (18446744073709551616 ≤ n) = true then false else decide (Builtin.bitAnd n (n + Builtin.bitAnd n (-n)) = 0)
def betwH (hi : Option Int) (n : Int) : Option Int := match hi with
  | none => some n
  | some h => if decide (h < n) = true then none else some n
def betwM (w : Str) (lo : Int) (hi : Option Int) : Option Int := match numM w with
  | none => none
  | some n => if decide (n < lo) = true then none else betwH hi n
def shifts : List Str := ["<<", ">>"]
def masks : List Str := ["&", "&~", "|", "^"]
def operM (s w : Str) : Option Int := if s ∈ shifts then betwM w 1 (some 63) else if s ∈ masks then (match betwM w 1 none with
  | none => none
  | some n => if isRunM n = true then some n else none) else none
def kindsL : List Str := ["make", "size", "used", "ahead", "use", "free", "meet", "part", "round"]
def regs : List Str := ["a", "b", "c"]
def handedM (k : Str) : List Str := if k = "make" then ["size", "used", "ahead"] else if k = "round" then ["n"] else ["word"]
def toldM (k : Str) : Str := if k = "size" then "size" else if k = "used" then "used" else if k = "ahead" then "ahead" else if k = "round" then "size" else "word"
def namesM (k : Str) : List Str := regs ++ (handedM k ++ [toldM k])
structure TxtH (K : PySem.W.Frag) (w : World) (mg : Str → Option Value) : Prop where
  top : ∃ t, mg "RUN_TOP" = some (.int 18446744073709551616 t)
  ms : ∃ t, mg "MOST_SHIFT" = some (.int 63 t)
  sh : ∃ c, mg "SHIFTS" = some (.ref c) ∧ ∀ H, SqT K H c (shifts.map V.str)
  ma : ∃ c, mg "MASKS" = some (.ref c) ∧ ∀ H, SqT K H c (masks.map V.str)
  rg : ∃ c, mg "REGISTERS" = some (.ref c) ∧ ∀ H, SqT K H c (regs.map V.str)
  ha : ∃ c, mg "HANDED" = some (.ref c) ∧ ∀ k ∈ kindsL, ∃ t, KDct K w c k (.ref t) ∧ ∀ H, SqT K H t ((handedM k).map V.str)
  to : ∃ c, mg "TOLD" = some (.ref c) ∧ ∀ k ∈ kindsL, KDct K w c k (.str (toldM k))
def spBetw : Sp := fun vs H Q _ => ∃ (x : Str) (lo : Int) (hi : Option Int), vs = [.str x, .int lo, optI hi] ∧ WOk x ∧ Q (optI (betwM x lo hi)) H
def spRun : Sp := fun vs H Q _ => ∃ n : Int, vs = [.int n] ∧ Q (.bl (isRunM n)) H
def spOper : Sp := fun vs H Q _ => ∃ s x : Str, vs = [.str s, .str x] ∧ WOk x ∧ Q (optI (operM s x)) H
def spNames (K : PySem.W.Frag) : Sp := fun vs H Q _ => ∃ k : Str, vs = [.str k] ∧ k ∈ kindsL ∧ ∀ t H', Same H H' → SqT K H' t ((namesM k).map V.str) → Q (.ref t) H'
section
variable {P : Program} {w : World} {K : PySem.W.Frag} {mg : Str → Option Value} {base : Heap}
theorem optI_non (o : Option Int) : decide (optI o = V.non) = o.isNone := by
  cases o with
  | none => rfl
  | some n => exact decide_eq_false (by intro z; cases z)
theorem scBetw : FnScope ["word", "least", "most", "number"] ["word", "least", "most"] (defScope sBetw) := ⟨rfl, rfl, rfl, by decide +kernel, rfl, by decide +kernel, by decide +kernel⟩
theorem ok_betw {f fN : Addr} {fd fdN : FuncData} (F : Fun K "number_between" "number_between" sBetw f fd) (GN : FnOk P w K mg base CX0 1 fN fdN ["word"] spNum) (kN : PySem.W.keepIn K (.ref fN) = true) (bN : Binds K fdN ["word"] []) (gN : mg "number_in" = some (.ref fN)) : FnOk P w K mg base CX0 2 f fd ["word", "least", "most"] spBetw := by
  refine F.ok scBetw (fun vs H Q E h => ?_) (fun cdv A outer s H vs Q E hr h => ?_)
  · obtain ⟨x, lo, hi, rfl, _⟩ := h
    rfl
  · obtain ⟨x, lo, hi, rfl, hx, k⟩ := h
    refine ⟨_, pss_cons (ps_set (i := 3) scBetw.nd rfl (Or.inl rfl) (pe_call GN hr rfl gN kN bN .nil pass0 (pa_cons (pv 0) pa_nil)))
      (pss_cons (ps_if (PW.pt (pw_or (pt_cmpR op_isN (pv 3) pe_non (nomark _)) (pw_or (pt_cmpR op_lt (pv 3) (pv 1) (nomark _)) (pw_or1 (PW.pt (pw_and (pt_cmpR op_notN (pv 2) pe_non (nomark _)) (pw_and1 (pt_cmpR op_gt (pv 3) (pv 2) (nomark _))))))))) (pss_one (ps_ret pe_non)) pss_nil)
      (pss_one (ps_ret (pv 3)))), ?_⟩
    refine ⟨_, rfl, x, rfl, hx.len, hx.num, ?_⟩
    unfold betwM at k
    cases e : numM x with
    | none =>
      rw [e] at k
      refine ⟨_, rfl, rfl, _, rfl, ?_⟩
      refine iteT ?_
      refine iteT ?_
      exact k
    | some n =>
      rw [e] at k
      refine ⟨_, rfl, rfl, _, rfl, ?_⟩
      refine ifF3 (by rw [optI_non]; rfl) ?_
      refine ⟨_, rfl, _, rfl, _, _, rfl, rfl, _, rfl, ?_⟩
      refine ite2 (fun h1 => ?_) (fun h1 => ?_)
      · refine iteT ?_
        have k2 : Q (optI (if decide (n < lo) = true then none else betwH hi n)) H := k
        rw [if_pos h1] at k2
        exact k2
      have k2 : Q (optI (betwH hi n)) H := by
        have k2 : Q (optI (if decide (n < lo) = true then none else betwH hi n)) H := k
        rw [if_neg h1] at k2
        exact k2
      refine ⟨_, rfl, rfl, _, rfl, ?_⟩
      cases hi with
      | none =>
        refine iteF ?_
        refine iteF ?_
        exact ⟨_, rfl, k2⟩
      | some m =>
        have nn : (!decide (optI (some m) = V.non)) = true := by rw [optI_non]; rfl
        refine ifT3 nn ?_
        refine ⟨_, rfl, _, rfl, _, _, rfl, rfl, _, rfl, ?_⟩
        have k3 : Q (optI (if decide (m < n) = true then none else some n)) H := k2
        refine ite2 (fun h2 => ?_) (fun h2 => ?_)
        · rw [if_pos h2] at k3
          exact k3
        · rw [if_neg h2] at k3
          exact ⟨_, rfl, k3⟩
theorem scRun : FnScope ["number"] ["number"] (defScope sRun) := ⟨rfl, rfl, rfl, by decide +kernel, rfl, by decide +kernel, by decide +kernel⟩
theorem ok_run {f : Addr} {fd : FuncData} (F : Fun K "is_run" "is_run" sRun f fd) (T : TxtH K w mg) : FnOk P w K mg base CX0 1 f fd ["number"] spRun := by
  obtain ⟨tk, htop⟩ := T.top
  refine F.ok scRun (fun vs H Q E h => ?_) (fun cdv A outer s H vs Q E hr h => ?_)
  · obtain ⟨n, rfl, _⟩ := h
    rfl
  · obtain ⟨n, rfl, k⟩ := h
    refine ⟨_, pss_cons (ps_if (PW.pt (pw_or (pt_cmpR op_lt (pv 0) pe_int (nomark _)) (pw_or1 (pt_cmpR op_ge (pv 0) (pe_glob (v := .int 18446744073709551616) (by rfl) htop ⟨tk, rfl⟩) (nomark _))))) (pss_one (ps_ret pe_bl)) pss_nil)
      (pss_one (ps_ret (pe_cmpR op_eq (pe_op op_and (pv 0) (pe_op op_add (pv 0) (pe_op op_and (pv 0) (pe_un un_neg (pv 0))))) pe_int (nomark _)))), ?_⟩
    unfold isRunM at k
    refine ⟨_, rfl, _, _, rfl, rfl, _, rfl, ?_⟩
    refine ite2 (fun h1 => ?_) (fun h1 => ?_)
    · refine iteT ?_
      rw [if_pos h1] at k
      exact k
    rw [if_neg h1] at k
    refine ⟨_, rfl, _, _, rfl, rfl, _, rfl, ?_⟩
    refine ite2 (fun h2 => ?_) (fun h2 => ?_)
    · rw [if_pos h2] at k
      exact k
    rw [if_neg h2] at k
    refine ⟨_, rfl, _, rfl, _, rfl, _, rfl, n, rfl, _, _, rfl, rfl, _, _, rfl, rfl, _, _, rfl, rfl, rfl, ?_⟩
    have e : decide (V.int (Builtin.bitAnd n (n + Builtin.bitAnd n (-n))) = V.int 0) = decide (Builtin.bitAnd n (n + Builtin.bitAnd n (-n)) = 0) := by
      by_cases h : Builtin.bitAnd n (n + Builtin.bitAnd n (-n)) = 0
      · rw [decide_eq_true h, decide_eq_true (congrArg V.int h)]
      · rw [decide_eq_false h, decide_eq_false (fun z => h (V.int.inj z))]
    rw [← e] at k
    exact k
theorem scOper : FnScope ["sign", "word", "number"] ["sign", "word"] (defScope sOper) := ⟨rfl, rfl, rfl, by decide +kernel, rfl, by decide +kernel, by decide +kernel⟩
theorem ok_oper {f fB fR : Addr} {fd fdB fdR : FuncData} (F : Fun K "operand_in" "operand_in" sOper f fd) (T : TxtH K w mg) (GB : FnOk P w K mg base CX0 2 fB fdB ["word", "least", "most"] spBetw) (kB : PySem.W.keepIn K (.ref fB) = true) (bB : Binds K fdB ["word", "least", "most"] []) (gB : mg "number_between" = some (.ref fB))
    (GR : FnOk P w K mg base CX0 1 fR fdR ["number"] spRun) (kR : PySem.W.keepIn K (.ref fR) = true) (bR : Binds K fdR ["number"] []) (gR : mg "is_run" = some (.ref fR)) : FnOk P w K mg base CX0 3 f fd ["sign", "word"] spOper := by
  obtain ⟨tk, hms⟩ := T.ms
  obtain ⟨c1, hc1, hC1⟩ := T.sh
  obtain ⟨c2, hc2, hC2⟩ := T.ma
  refine F.ok scOper (fun vs H Q E h => ?_) (fun cdv A outer s H vs Q E hr h => ?_)
  · obtain ⟨n, x, rfl, _⟩ := h
    rfl
  · obtain ⟨sg, x, rfl, hx, k⟩ := h
    have hr1 : Room 1 _ := hr.mono (by decide)
    refine ⟨_, pss_cons (ps_if (pt_cmpR op_in_seq (pv 0) (pe_glob (v := .ref c1) (by rfl) hc1 rfl) (by rfl)) (pss_one (ps_ret (pe_call GB hr rfl gB kB bB .nil pass0 (pa_cons (pv 1) (pa_cons pe_int (pa_cons (pe_glob (v := .int 63) (by rfl) hms ⟨tk, rfl⟩) pa_nil)))))) pss_nil)
      (pss_cons (ps_if (pt_cmpR op_notIn_seq (pv 0) (pe_glob (v := .ref c2) (by rfl) hc2 rfl) (by rfl)) (pss_one (ps_ret pe_non)) pss_nil)
      (pss_cons (ps_set (i := 2) scOper.nd rfl (Or.inl rfl) (pe_call GB hr rfl gB kB bB .nil pass0 (pa_cons (pv 1) (pa_cons pe_int (pa_cons pe_non pa_nil)))))
      (pss_one (ps_ret (pe_ifExp (PW.pt (pw_and (pt_cmpR op_notN (pv 2) pe_non (nomark _)) (pw_and1 (pt_val (pe_call GR hr1 rfl gR kR bR .nil pass0 (pa_cons (pv 2) pa_nil)))))) (pv 2) pe_non))))), ?_⟩
    unfold operM at k
    refine ⟨_, rfl, c1, _, rfl, .inr (hC1 _), rfl, flat_str shifts, ?_⟩
    rw [if_neg Bool.false_ne_true, inV_str]
    refine ⟨_, rfl, ?_⟩
    by_cases h1 : sg ∈ shifts
    · rw [if_pos h1] at k
      refine ifT3 (decide_eq_true h1) ?_
      exact ⟨_, rfl, x, 1, some 63, rfl, hx, k⟩
    rw [if_neg h1] at k
    refine ifF3 (decide_eq_false h1) ?_
    refine ⟨_, rfl, c2, _, rfl, .inr (hC2 _), rfl, flat_str masks, ?_⟩
    rw [if_pos rfl, inV_str]
    refine ⟨_, rfl, ?_⟩
    by_cases h2 : sg ∈ masks
    · rw [if_pos h2] at k
      refine ifF3 (by rw [decide_eq_true h2]; rfl) ?_
      refine ⟨_, rfl, x, 1, none, rfl, hx, ?_⟩
      refine ⟨_, rfl, rfl, _, rfl, ?_⟩
      cases e : betwM x 1 none with
      | none =>
        rw [e] at k
        refine iteF ?_
        refine iteF ?_
        exact k
      | some n =>
        rw [e] at k
        refine ifT3 (by rw [optI_non]; rfl) ?_
        refine ⟨_, rfl, n, rfl, _, rfl, ?_⟩
        have k2 : Q (optI (if isRunM n = true then some n else none)) H := k
        refine ite2 (fun h3 => ?_) (fun h3 => ?_)
        · rw [if_pos h3] at k2
          exact ⟨_, rfl, k2⟩
        · rw [if_neg h3] at k2
          exact k2
    · rw [if_neg h2] at k
      refine ifT3 (by rw [decide_eq_false h2]; rfl) ?_
      exact k
theorem scNames : FnScope ["kind"] ["kind"] (defScope sNames) := ⟨rfl, rfl, rfl, by decide +kernel, rfl, by decide +kernel, by decide +kernel⟩
theorem ok_names {f : Addr} {fd : FuncData} (F : Fun K "names_for" "names_for" sNames f fd) (T : TxtH K w mg) : FnOk P w K mg base CX0 1 f fd ["kind"] (spNames K) := by
  obtain ⟨c1, hc1, hC1⟩ := T.rg
  obtain ⟨c2, hc2, hC2⟩ := T.ha
  obtain ⟨c3, hc3, hC3⟩ := T.to
  refine F.ok scNames (fun vs H Q E h => ?_) (fun cdv A outer s H vs Q E hr h => ?_)
  · obtain ⟨k, rfl, _⟩ := h
    rfl
  · obtain ⟨kd, rfl, hkd, k⟩ := h
    obtain ⟨t2, d2, T2⟩ := hC2 kd hkd
    refine ⟨_, pss_one (ps_ret (pe_tup (StX.pa_star (pe_glob (v := .ref c1) (by rfl) hc1 rfl) (StX.pa_star (pe_ix ix_kdict (pe_glob (v := .ref c2) (by rfl) hc2 rfl) (pv 0) (fun _ _ => rfl)) (pa_cons (pe_ix ix_kdict (pe_glob (v := .ref c3) (by rfl) hc3 rfl) (pv 0) (fun _ _ => rfl)) pa_nil))))), ?_⟩
    have hlen : ∀ kd : Str, (handedM kd).length ≤ 3 := fun kd => by
      unfold handedM
      split
      · decide
      · split
        · decide
        · decide
    refine ⟨c1, _, rfl, .inl (hC1 _), _, rfl, c2, kd, _, rfl, rfl, d2, t2, _, rfl, .inl (T2 _), _, rfl, c3, kd, _, rfl, rfl, hC3 kd hkd, ?_, fun p np => ?_⟩
    · refine Nat.le_of_lt (small1000 ?_)
      rw [List.length_append, List.length_append, List.length_map, List.length_map]
      have := hlen kd
      show 3 + ((handedM kd).length + 1) ≤ 1000
      omega
    · refine k p _ (Same.new np) ?_
      unfold namesM
      rw [List.map_append, List.map_append]
      exact SqT.of upd_same
end
end K02

set_option Elab.async false
set_option linter.all false
set_option maxRecDepth 100000
set_option maxHeartbeats 8000000
/-! Head codes, b: lines -/
namespace K02
open PySem L2
def last2 (ws : List Str) : Str := ws.getD (ws.length - 2) Str.empty
def last1 (ws : List Str) : Str := ws.getD (ws.length - 1) Str.empty
def stepSet (kd : Str) (ws : List Str) (w0 : Str) : Option PyData := match sumM (ws.drop 2) (namesM kd) with
  | some acc => some (.tuple [.str "set", .str w0, sumD acc, .none, .int 0])
  | none => match sumM ((ws.drop 2).take (ws.length - 4)) (namesM kd) with
    | none => none
    | some acc => match operM (last2 ws) (last1 ws) with
      | none => none
      | some n => some (.tuple [.str "set", .str w0, sumD acc, .str (last2 ws), .int n])
def stepM (kd : Str) (ws : List Str) : Option PyData := if ws = [("quit" : Str)] then some (.tuple [.str "quit"]) else if ws = [("no" : Str)] ∧ kd = "round" then some (.tuple [.str "no"]) else if ws.length < 3 then none else
  if ws.getD 1 Str.empty = "=" ∧ ws.getD 0 Str.empty ∈ regs ++ [toldM kd] then stepSet kd ws (ws.getD 0 Str.empty) else none
def spStepIn (K : PySem.W.Frag) (kinds : List Str) (sm : Str → List Str → Option PyData) : Sp := fun vs H Q _ => ∃ (a : Addr) (ws : List Str) (kd : Str), vs = [.ref a, .str kd] ∧ kd ∈ kinds ∧ SqL K H a (ws.map V.str) ∧ WsOk ws ∧ ws.length ≤ 1000 ∧
  ∀ (v : V) (H' : Hp), Same H H' → ResD K H' v (sm kd ws) → Q v H'
theorem at_pos {ws : List Str} {i : Nat} (h : i < ws.length) : atI (ws.map V.str) (i : Int) = some (.str (ws.getD i Str.empty)) :=
  atI_nat (by rw [List.getElem?_map, List.getD_eq_getElem?_getD, List.getElem?_eq_getElem h]; rfl)
theorem at_neg {ws : List Str} {i : Nat} (h0 : 0 < i) (h : i ≤ ws.length) : atI (ws.map V.str) (-(i : Int)) = some (.str (ws.getD (ws.length - i) Str.empty)) := by
  have e : ixN (ws.map V.str).length (-(i : Int)) = some (ws.length - i) := by
    unfold ixN
    rw [List.length_map]
    rw [if_neg (by omega), if_pos (by omega)]
    congr 1
    omega
  unfold atI
  rw [e]
  show (ws.map V.str)[ws.length - i]? = _
  rw [List.getElem?_map, List.getD_eq_getElem?_getD, List.getElem?_eq_getElem (by omega)]
  rfl
theorem cut_mid (ws : List Str) (h : 3 ≤ ws.length) : cutV (ws.map V.str) (some 2) (some (-2)) = ((ws.drop 2).take (ws.length - 4)).map V.str := by
  have e1 : HT.sIx (ws.map V.str).length 0 (some 2) = 2 := by
    have z := HT.sIx_nat (ws.map V.str).length 0 2
    rw [List.length_map] at z ⊢
    rw [show ((2 : Nat) : Int) = 2 from rfl] at z
    rw [z]
    omega
  have e2 : HT.sIx (ws.map V.str).length (ws.map V.str).length (some (-2)) = ws.length - 2 := by
    rw [List.length_map]
    show (if (-2 : Int) < 0 then ((-2 : Int) + (ws.length : Int)).toNat else min (-2 : Int).toNat ws.length) = ws.length - 2
    rw [if_pos (by decide)]
    omega
  unfold cutV
  rw [e1, e2, List.map_take, List.map_drop, show ws.length - 2 - 2 = ws.length - 4 from by omega]
theorem getD_mem {ws : List Str} {i : Nat} (h : i < ws.length) : ws.getD i Str.empty ∈ ws := by
  rw [List.getD_eq_getElem?_getD, List.getElem?_eq_getElem h]
  exact List.getElem_mem h
section
variable {P : Program} {w : World} {K : PySem.W.Frag} {mg : Str → Option Value} {base : Heap}
theorem scStep : FnScope ["words", "kind", "plain", "terms", "operand"] ["words", "kind"] (defScope sStep) := ⟨rfl, rfl, rfl, by decide +kernel, rfl, by decide +kernel, by decide +kernel⟩
theorem ok_step {f fS fN fO : Addr} {fd fdS fdN fdO : FuncData} (F : Fun K "head_step_in" "head_step_in" sStep f fd) (TN : TxtN mg) (T : TxtH K w mg)
    (GS : FnOk P w K mg base CX0 3 fS fdS ["words", "names"] (spSum K)) (kS : PySem.W.keepIn K (.ref fS) = true) (bS : Binds K fdS ["words", "names"] []) (gS : mg "sum_in" = some (.ref fS))
    (GN : FnOk P w K mg base CX0 1 fN fdN ["kind"] (spNames K)) (kN : PySem.W.keepIn K (.ref fN) = true) (bN : Binds K fdN ["kind"] []) (gN : mg "names_for" = some (.ref fN))
    (GO : FnOk P w K mg base CX0 3 fO fdO ["sign", "word"] spOper) (kO : PySem.W.keepIn K (.ref fO) = true) (bO : Binds K fdO ["sign", "word"] []) (gO : mg "operand_in" = some (.ref fO)) : FnOk P w K mg base CX0 4 f fd ["words", "kind"] (spStepIn K kindsL stepM) := by
  obtain ⟨c1, hc1, hC1⟩ := T.rg
  obtain ⟨c3, hc3, hC3⟩ := T.to
  refine F.ok scStep (fun vs H Q E h => ?_) (fun cdv A outer s H vs Q E hr h => ?_)
  · obtain ⟨a, ws, kd, rfl, _⟩ := h
    rfl
  · obtain ⟨a, ws, kd, rfl, hkd, ha, hok, hlen, k⟩ := h
    have hr1 : Room 1 _ := hr.mono (by decide)
    -- the part behind the first test
    obtain ⟨t2, p2, r2⟩ : ∃ t2, PSs (cxOf CX0 P w K mg base ["words", "kind", "plain", "terms", "operand"] "head_step_in" (defScope sStep) f cdv A outer s H E).nox ((defBody sStep).drop 1) t2 ∧
        ∀ (G : Hp), Same H G → ¬ ws = [("quit" : Str)] → ¬ (ws = [("no" : Str)] ∧ kd = "round") → t2 { nx := fun _ H' => Q .non H', rt := Q } [some (.ref a), some (.str kd), none, none, none] G := by
      refine ⟨_, pss_cons (ps_if (PW.pt (pw_or (pt_cmpR op_lt (pe_callB call_len_seq (by rfl) TN.len PySem.boot_len (pa_cons (pv 0) pa_nil)) pe_int (nomark _)) (pw_or (pt_cmpR op_ne (pe_ix ix_list (pv 0) pe_int (fun _ _ => rfl)) pe_str (nomark _)) (pw_or1 (pt_cmpR op_notIn_seq (pe_ix ix_list (pv 0) pe_int (fun _ _ => rfl)) (pe_tup (StX.pa_star (pe_glob (v := .ref c1) (by rfl) hc1 rfl) (pa_cons (pe_ix ix_kdict (pe_glob (v := .ref c3) (by rfl) hc3 rfl) (pv 1) (fun _ _ => rfl)) pa_nil))) (by rfl)))))) (pss_one (ps_ret pe_non)) pss_nil)
        (pss_cons (ps_set (i := 2) scStep.nd rfl (Or.inl rfl) (pe_call GS hr rfl gS kS bS .nil pass0 (pa_cons (pe_slice sl_list (pv 0) (po_some pe_int) po_none) (pa_cons (pe_call GN hr1 rfl gN kN bN .nil pass0 (pa_cons (pv 1) pa_nil)) pa_nil))))
        (pss_cons (ps_if (pt_cmpR op_notN (pv 2) pe_non (nomark _)) (pss_one (ps_ret (pe_tup (pa_cons pe_str (pa_cons (pe_ix ix_list (pv 0) pe_int (fun _ _ => rfl)) (pa_cons (pv 2) (pa_cons pe_non (pa_cons pe_int pa_nil)))))))) pss_nil)
        (pss_cons (ps_set (i := 3) scStep.nd rfl (Or.inl rfl) (pe_call GS hr rfl gS kS bS .nil pass0 (pa_cons (pe_slice sl_list (pv 0) (po_some pe_int) (po_some (pe_un un_neg pe_int))) (pa_cons (pe_call GN hr1 rfl gN kN bN .nil pass0 (pa_cons (pv 1) pa_nil)) pa_nil))))
        (pss_cons (ps_set (i := 4) scStep.nd rfl (Or.inl rfl) (pe_call GO hr rfl gO kO bO .nil pass0 (pa_cons (pe_ix ix_list (pv 0) (pe_un un_neg pe_int) (fun _ _ => rfl)) (pa_cons (pe_ix ix_list (pv 0) (pe_un un_neg pe_int) (fun _ _ => rfl)) pa_nil))))
        (pss_cons (ps_if (PW.pt (pw_or (pt_cmpR op_isN (pv 3) pe_non (nomark _)) (pw_or1 (pt_cmpR op_isN (pv 4) pe_non (nomark _))))) (pss_one (ps_ret pe_non)) pss_nil)
        (pss_one (ps_ret (pe_tup (pa_cons pe_str (pa_cons (pe_ix ix_list (pv 0) pe_int (fun _ _ => rfl)) (pa_cons (pv 3) (pa_cons (pe_ix ix_list (pv 0) (pe_un un_neg pe_int) (fun _ _ => rfl)) (pa_cons (pv 4) pa_nil))))))))))))), ?_⟩
      intro G hG nq nn
      have hM : stepM kd ws = if ws.length < 3 then none else if ws.getD 1 Str.empty = "=" ∧ ws.getD 0 Str.empty ∈ regs ++ [toldM kd] then stepSet kd ws (ws.getD 0 Str.empty) else none := by
        unfold stepM
        rw [if_neg nq, if_neg nn]
      have hGa := hG.seq ha
      have outN : stepM kd ws = none → ∀ G', Same H G' → Q .non G' := fun z G' s => k _ _ s (by rw [z]; rfl)
      refine ⟨_, rfl, a, _, rfl, .inl hGa, _, _, rfl, rfl, _, rfl, ?_⟩
      refine ite2 (fun h3 => ?_) (fun h3 => ?_)
      · refine iteT ?_
        refine outN ?_ _ hG
        have z := of_decide_eq_true h3
        rw [List.length_map] at z
        rw [hM, if_pos (by omega)]
      have h3' : ¬ ws.length < 3 := fun z => h3 (decide_eq_true (by rw [List.length_map]; omega))
      rw [if_neg h3'] at hM
      have at0 := at_pos (ws := ws) (i := 0) (by omega)
      have at1 := at_pos (ws := ws) (i := 1) (by omega)
      have at2 : atI (ws.map V.str) (-2) = some (.str (last2 ws)) := at_neg (ws := ws) (i := 2) (by decide) (by omega)
      have at3 : atI (ws.map V.str) (-1) = some (.str (last1 ws)) := at_neg (ws := ws) (i := 1) (by decide) (by omega)
      refine ⟨_, rfl, a, _, 1, _, rfl, rfl, hGa, at1, rfl, _, rfl, ?_⟩
      by_cases hE : ws.getD 1 Str.empty = "="
      case neg =>
        refine ifT3 (by rw [decide_eq_false (fun z => hE (V.str.inj z))]; rfl) ?_
        refine iteT ?_
        refine outN ?_ _ hG
        rw [hM, if_neg (fun z => hE z.1)]
      refine ifF3 (by rw [decide_eq_true (congrArg V.str hE)]; rfl) ?_
      refine ⟨_, rfl, a, _, 0, _, rfl, rfl, hGa, at0, c1, _, rfl, .inl (hC1 _), _, rfl, c3, kd, _, rfl, rfl, hC3 kd hkd, (by show 4 ≤ sizeLine; decide), fun p np => ?_⟩
      have s3 := hG.trans (Same.new (o := .tup ((regs ++ [toldM kd]).map V.str)) np)
      refine ⟨p, _, rfl, .inr (SqT.of upd_same), rfl, flat_str (regs ++ [toldM kd]), ?_⟩
      rw [if_pos rfl]
      refine ⟨_, rfl, ?_⟩
      have inM : inV (V.str (ws.getD 0 Str.empty)) (regs.map V.str ++ [V.str (toldM kd)]) = decide (ws.getD 0 Str.empty ∈ regs ++ [toldM kd]) := inV_str _ (regs ++ [toldM kd])
      by_cases hmem : ws.getD 0 Str.empty ∈ regs ++ [toldM kd]
      case neg =>
        refine ifT3 (by rw [inM, decide_eq_false hmem]; rfl) ?_
        refine outN ?_ _ s3
        rw [hM, if_neg (fun z => hmem z.2)]
      refine ifF3 (by rw [inM, decide_eq_true hmem]; rfl) ?_
      rw [if_pos ⟨hE, hmem⟩] at hM
      have wok2 : WsOk (ws.drop 2) := fun w hw => hok w (List.mem_of_mem_drop hw)
      have cl2 : cutV (ws.map V.str) (some 2) none = (ws.drop 2).map V.str := cut_lo ws 2
      refine ⟨_, rfl, _, rfl, a, _, rfl, s3.seq ha, fun q nq => ?_⟩
      rw [cl2]
      have s4 := s3.trans (Same.new (o := .lst ((ws.drop 2).map V.str)) nq)
      refine ⟨_, rfl, kd, rfl, hkd, fun t G5 s5 ht => ?_⟩
      refine ⟨q, t, ws.drop 2, namesM kd, rfl, SqL.of (s5 _ _ upd_same), ht, wok2.two, by rw [List.length_drop]; omega, fun v G6 s6 res => ?_⟩
      have s46 := (s4.trans s5).trans s6
      refine ⟨_, rfl, rfl, _, rfl, ?_⟩
      cases o : sumM (ws.drop 2) (namesM kd) with
      | some acc =>
        rw [o] at res
        refine ifT3 (by rw [decide_eq_false res.1]; rfl) ?_
        refine ⟨_, rfl, a, _, 0, _, rfl, rfl, s46.seq ha, at0, _, rfl, (by show 5 ≤ sizeLine; decide), fun p2 np2 => ?_⟩
        refine k _ _ (s46.trans (Same.new np2)) ?_
        rw [hM]
        unfold stepSet
        rw [o]
        exact ⟨(by intro z; cases z), .tup (SqT.of upd_same) (.cons (.str _) (.cons (.str _) (.cons (res.2.keep (Same.tk (Same.new np2))) (.cons .non (.cons (.int _) .nil)))))⟩
      | none =>
      rw [o] at res
      have rv : v = .non := res
      subst rv
      refine ifF3 rfl ?_
      have hS : stepSet kd ws (ws.getD 0 Str.empty) = match sumM ((ws.drop 2).take (ws.length - 4)) (namesM kd) with
          | none => none
          | some acc => match operM (last2 ws) (last1 ws) with
            | none => none
            | some n => some (.tuple [.str "set", .str (ws.getD 0 Str.empty), sumD acc, .str (last2 ws), .int n]) := by
        unfold stepSet
        rw [o]
      rw [hS] at hM
      have cl3 : cutV (ws.map V.str) (some 2) (some (-2)) = ((ws.drop 2).take (ws.length - 4)).map V.str := cut_mid _ (by omega)
      refine ⟨_, rfl, _, rfl, _, rfl, _, rfl, a, _, rfl, s46.seq ha, fun q2 nq2 => ?_⟩
      rw [cl3]
      have s5' := s46.trans (Same.new (o := .lst (((ws.drop 2).take (ws.length - 4)).map V.str)) nq2)
      have wok3 : WsOk ((ws.drop 2).take (ws.length - 4)) := fun w hw => wok2 w (List.mem_of_mem_take hw)
      refine ⟨_, rfl, kd, rfl, hkd, fun t2 G7 s7 ht2 => ?_⟩
      refine ⟨q2, t2, _, namesM kd, rfl, SqL.of (s7 _ _ upd_same), ht2, wok3.two, by rw [List.length_take, List.length_drop]; omega, fun v2 G8 s8 res2 => ?_⟩
      have s58 := (s5'.trans s7).trans s8
      refine ⟨_, rfl, _, rfl, a, _, -2, _, rfl, rfl, s58.seq ha, at2, _, rfl, _, rfl, a, _, -1, _, rfl, rfl, s58.seq ha, at3, last2 ws, last1 ws, rfl, hok _ (getD_mem (by omega)), ?_⟩
      refine ⟨_, rfl, rfl, _, rfl, ?_⟩
      cases o2 : sumM ((ws.drop 2).take (ws.length - 4)) (namesM kd) with
      | none =>
        rw [o2] at res2
        have rv : v2 = .non := res2
        subst rv
        refine iteT ?_
        refine iteT ?_
        refine outN ?_ _ s58
        rw [hM, o2]
      | some acc =>
      rw [o2] at res2
      refine ifF3 (decide_eq_false res2.1) ?_
      refine ⟨_, rfl, rfl, _, rfl, ?_⟩
      cases o3 : operM (last2 ws) (last1 ws) with
      | none =>
        refine iteT ?_
        refine outN ?_ _ s58
        rw [hM, o2]
        show (match operM (last2 ws) (last1 ws) with
            | none => none
            | some n => _) = none
        rw [o3]
      | some n =>
        refine ifF3 (by rw [optI_non]; rfl) ?_
        refine ⟨_, rfl, a, _, 0, _, rfl, rfl, s58.seq ha, at0, _, rfl, _, rfl, _, rfl, a, _, -2, _, rfl, rfl, s58.seq ha, at2, _, rfl, (by show 5 ≤ sizeLine; decide), fun p2 np2 => ?_⟩
        refine k _ _ (s58.trans (Same.new np2)) ?_
        rw [hM, o2]
        show ResD K _ _ (match operM (last2 ws) (last1 ws) with
            | none => none
            | some n => some (.tuple [.str "set", .str (ws.getD 0 Str.empty), sumD acc, .str (last2 ws), .int n]))
        rw [o3]
        exact ⟨(by intro z; cases z), .tup (SqT.of upd_same) (.cons (.str _) (.cons (.str _) (.cons (res2.2.keep (Same.tk (Same.new np2))) (.cons (.str _) (.cons (.int _) .nil)))))⟩
    refine ⟨_, pss_cons (ps_if (PW.pt (pw_or (pt_cmpR (op_eqD hr.units) (pv 0) (pe_lst (pa_cons pe_str pa_nil)) (nomark _)) (pw_or1 (PW.pt (pw_and (pt_cmpR (op_eqD hr.units) (pv 0) (pe_lst (pa_cons pe_str pa_nil)) (nomark _)) (pw_and1 (pt_cmpR op_eq (pv 1) pe_str (nomark _)))))))) (pss_one (ps_ret (pe_tup (pa_cons (pe_ix ix_list (pv 0) pe_int (fun _ _ => rfl)) pa_nil)))) pss_nil) p2, ?_⟩
    have dW : ∀ G, Same H G → Dp K G (.ref a) (.list (ws.map PyData.str)) := fun G hG => .lst (hG.seq ha) (dpWs _)
    have lW := shapedWs hok
    refine ⟨_, rfl, (by show 1 ≤ sizeLine; decide), fun q nq => ?_⟩
    have sq := Same.new (o := .lst [.str "quit"]) nq
    refine ⟨_, .list ([("quit" : Str)].map PyData.str), dW _ sq, .lst (SqL.of (xs := [("quit" : Str)].map V.str) upd_same) (dpWs _), lW, by decide +kernel, ?_⟩
    rw [eqvL]
    refine ⟨_, rfl, ?_⟩
    refine ite2 (fun h1 => ?_) (fun h1 => ?_)
    · refine iteT ?_
      have e := of_decide_eq_true h1
      subst e
      refine ⟨_, rfl, a, _, 0, _, rfl, rfl, sq.seq ha, at_pos (i := 0) (by decide), (by show 1 ≤ sizeLine; decide), fun p np => ?_⟩
      refine k _ _ (sq.trans (Same.new np)) ?_
      exact ⟨(by intro z; cases z), .tup (SqT.of upd_same) (.cons (.str _) .nil)⟩
    have nq' : ¬ ws = [("quit" : Str)] := fun z => h1 (decide_eq_true z)
    refine ⟨_, rfl, (by show 1 ≤ sizeLine; decide), fun q2 nq2 => ?_⟩
    have sq2 := sq.trans (Same.new (o := .lst [.str "no"]) nq2)
    refine ⟨_, .list ([("no" : Str)].map PyData.str), dW _ sq2, .lst (SqL.of (xs := [("no" : Str)].map V.str) upd_same) (dpWs _), lW, by decide +kernel, ?_⟩
    rw [eqvL]
    refine ⟨_, rfl, ?_⟩
    refine ite2 (fun h2 => ?_) (fun h2 => ?_)
    · have e := of_decide_eq_true h2
      refine ⟨_, rfl, rfl, _, rfl, ?_⟩
      refine ite2 (fun h3 => ?_) (fun h3 => ?_)
      · have e3 : kd = "round" := V.str.inj (of_decide_eq_true h3)
        subst e
        subst e3
        refine ⟨_, rfl, a, _, 0, _, rfl, rfl, sq2.seq ha, at_pos (i := 0) (by decide), (by show 1 ≤ sizeLine; decide), fun p np => ?_⟩
        refine k _ _ (sq2.trans (Same.new np)) ?_
        exact ⟨(by intro z; cases z), .tup (SqT.of upd_same) (.cons (.str _) .nil)⟩
      · exact r2 _ sq2 nq' fun z => h3 (decide_eq_true (congrArg V.str z.2))
    · refine iteF ?_
      exact r2 _ sq2 nq' fun z => h2 (decide_eq_true z.1)
end
end K02

set_option Elab.async false
set_option linter.all false
set_option maxRecDepth 100000
set_option maxHeartbeats 8000000
/-! Head codes, c: parts of tests, marks; lines of a text -/
namespace K02
open PySem L2
/-- what a line does -/
inductive St where
  | fin (s : Str)
  | set (n : Str) (sm : PyData) (sg : Option Str) (k : Int)
  | iff (t : PyData)
  | els
  | nd
def sgD : Option Str → PyData
  | none => .none
  | some s => .str s
def St.d : St → PyData
  | .fin s => .tuple [.str s]
  | .set n sm sg k => .tuple [.str "set", .str n, sm, sgD sg, .int k]
  | .iff t => .tuple [.str "if", t]
  | .els => .tuple [.str "else"]
  | .nd => .tuple [.str "end"]
def St.sort : St → Str
  | .fin s => s
  | .set .. => "set"
  | .iff _ => "if"
  | .els => "else"
  | .nd => "end"
/-- its end is one of two -/
def St.Ok : St → Prop
  | .fin s => s = "quit" ∨ s = "no"
  | _ => True
def St.marks : St → List Str
  | .set n _ none _ => [n]
  | .set n _ (some _) _ => [n, "made"]
  | _ => []
def hPartM (kd : Str) (ws : List Str) : Option PyData := compM ws (namesM kd)
def linesM (x : Str) : List Str := if x = Str.empty then [] else Txt.split x "\n"
def spMarks (K : PySem.W.Frag) : Sp := fun vs H Q _ => ∃ (v : V) (st : St), vs = [v] ∧ TDp K H v st.d ∧ st.Ok ∧ ∀ p H', Same H H' → H' p = some (.lst (st.marks.map V.str)) → Q (.ref p) H'
def spLines : Sp := fun vs H Q _ => ∃ x : Str, vs = [.str x] ∧ x.length + 2 ≤ sizeLine ∧ ∀ p H', Same H H' → H' p = some (.lst ((linesM x).map V.str)) → Q (.ref p) H'
theorem St.head {K : PySem.W.Frag} {H : Hp} {v : V} {st : St} (h : TDp K H v st.d) : ∃ a rest, v = .ref a ∧ SqT K H a (.str st.sort :: rest) := by
  cases st <;>
  · cases h with
    | tup hs ha =>
      cases ha with
      | cons h1 hr =>
        cases h1
        exact ⟨_, _, rfl, hs⟩
def sgV : Option Str → V
  | none => .non
  | some s => .str s
theorem St.setv {K : PySem.W.Frag} {H : Hp} {v : V} {n : Str} {sm : PyData} {sg : Option Str} {c : Int} (h : TDp K H v (St.set n sm sg c).d) : ∃ a vm, v = .ref a ∧ SqT K H a [.str "set", .str n, vm, sgV sg, .int c] := by
  cases h with
  | tup hs ha =>
    cases ha with
    | cons h1 ha =>
    cases ha with
    | cons h2 ha =>
    cases ha with
    | cons h3 ha =>
    cases ha with
    | cons h4 ha =>
    cases ha with
    | cons h5 ha =>
    cases ha
    cases h1
    cases h2
    cases h5
    cases sg <;>
    · cases h4
      exact ⟨_, _, rfl, hs⟩
section
variable {P : Program} {w : World} {K : PySem.W.Frag} {mg : Str → Option Value} {base : Heap}
theorem scHPart : FnScope ["words", "kind"] ["words", "kind"] (defScope sHPart) := ⟨rfl, rfl, rfl, by decide +kernel, rfl, by decide +kernel, by decide +kernel⟩
theorem ok_hpart {f fC fN : Addr} {fd fdC fdN : FuncData} (F : Fun K "head_part_in" "head_part_in" sHPart f fd)
    (GC : FnOk P w K mg base CX0 3 fC fdC ["words", "names"] (spComp K)) (kC : PySem.W.keepIn K (.ref fC) = true) (bC : Binds K fdC ["words", "names"] []) (gC : mg "comparison_in" = some (.ref fC))
    (GN : FnOk P w K mg base CX0 1 fN fdN ["kind"] (spNames K)) (kN : PySem.W.keepIn K (.ref fN) = true) (bN : Binds K fdN ["kind"] []) (gN : mg "names_for" = some (.ref fN)) : FnOk P w K mg base CX0 4 f fd ["words", "kind"] (spPartIn K kindsL hPartM) := by
  refine F.ok scHPart (fun vs H Q E h => ?_) (fun cdv A outer s H vs Q E hr h => ?_)
  · obtain ⟨a, ws, kd, rfl, _⟩ := h
    rfl
  · obtain ⟨a, ws, kd, rfl, hkd, ha, hok, hlen, k⟩ := h
    have hr1 : Room 1 _ := hr.mono (by decide)
    refine ⟨_, pss_one (ps_ret (pe_call GC hr rfl gC kC bC .nil pass0 (pa_cons (pv 0) (pa_cons (pe_call GN hr1 rfl gN kN bN .nil pass0 (pa_cons (pv 1) pa_nil)) pa_nil)))), ?_⟩
    refine ⟨_, rfl, _, rfl, kd, rfl, hkd, fun t H1 s1 ht => ?_⟩
    exact ⟨a, t, ws, namesM kd, rfl, s1.seq ha, ht, hok.two, fun v H2 s2 res => k v H2 (s1.trans s2) res⟩
theorem scMarks : FnScope ["step"] ["step"] (defScope sMarks) := ⟨rfl, rfl, rfl, by decide +kernel, rfl, by decide +kernel, by decide +kernel⟩
theorem ok_marks {f : Addr} {fd : FuncData} (F : Fun K "marks_of" "marks_of" sMarks f fd) : FnOk P w K mg base CX0 1 f fd ["step"] (spMarks K) := by
  refine F.ok scMarks (fun vs H Q E h => ?_) (fun cdv A outer s H vs Q E hr h => ?_)
  · obtain ⟨v, st, rfl, _⟩ := h
    rfl
  · obtain ⟨v, st, rfl, hv, hst, k⟩ := h
    refine ⟨_, pss_cons (ps_if (pt_cmpR op_ne (pe_ix ix_tup (pv 0) pe_int (fun _ _ => rfl)) pe_str (nomark _)) (pss_one (ps_ret (pe_lst pa_nil))) pss_nil)
      (pss_one (ps_ret (pe_ifExp (pt_cmpR op_isN (pe_ix ix_tup (pv 0) pe_int (fun _ _ => rfl)) pe_non (nomark _)) (pe_lst (pa_cons (pe_ix ix_tup (pv 0) pe_int (fun _ _ => rfl)) pa_nil)) (pe_lst (pa_cons (pe_ix ix_tup (pv 0) pe_int (fun _ _ => rfl)) (pa_cons pe_str pa_nil)))))), ?_⟩
    obtain ⟨a, rest, rfl, hs⟩ := St.head hv
    refine ⟨_, rfl, a, _, 0, _, rfl, rfl, hs, atI_nat (j := 0) rfl, rfl, _, rfl, ?_⟩
    have no : st.marks = [] → ¬ st.sort = "set" → 0 ≤ sizeLine ∧ ∀ l, H l = none → Q (.ref l) (upd H l (.lst [])) := fun hm hx => ⟨by decide, fun l nl => k l _ (Same.new nl) (by rw [hm]; exact upd_same)⟩
    have nb : ¬ st.sort = "set" → (!decide (V.str st.sort = V.str "set")) = true := fun hx => by rw [decide_eq_false fun z => hx (V.str.inj z)]; rfl
    cases st with
    | fin x =>
      have hx : ¬ x = "set" := fun z => by
        rcases hst with e | e
        · rw [e] at z; exact absurd z (by decide +kernel)
        · rw [e] at z; exact absurd z (by decide +kernel)
      exact ifT3 (nb hx) (no rfl hx)
    | iff t =>
      have z : ¬ ("if" : Str) = "set" := by decide +kernel
      exact ifT3 (nb z) (no rfl z)
    | els => exact ifT3 (nb (by decide +kernel)) (no rfl (by decide +kernel))
    | nd => exact ifT3 (nb (by decide +kernel)) (no rfl (by decide +kernel))
    | set n sm sg c =>
      obtain ⟨a', vm, e, hs'⟩ := St.setv hv
      cases e
      refine ifF3 (show (!decide (V.str ("set" : Str) = V.str "set")) = false by decide +kernel) ?_
      refine ⟨_, rfl, a, _, 3, _, rfl, rfl, hs', atI_nat (j := 3) rfl, rfl, _, rfl, ?_⟩
      cases sg with
      | none =>
        refine iteT ?_
        refine ⟨_, rfl, a, _, 1, _, rfl, rfl, hs', atI_nat (j := 1) rfl, (by show 1 ≤ sizeLine; decide), fun p np => ?_⟩
        exact k p _ (Same.new np) upd_same
      | some x =>
        refine iteF ?_
        refine ⟨_, rfl, a, _, 1, _, rfl, rfl, hs', atI_nat (j := 1) rfl, (by show 2 ≤ sizeLine; decide), fun p np => ?_⟩
        exact k p _ (Same.new np) upd_same
theorem scLines : FnScope ["text"] ["text"] (defScope sLines) := ⟨rfl, rfl, rfl, by decide +kernel, rfl, by decide +kernel, by decide +kernel⟩
theorem ok_lines {f : Addr} {fd : FuncData} (F : Fun K "lines_of" "lines_of" sLines f fd) : FnOk P w K mg base CX0 1 f fd ["text"] spLines := by
  refine F.ok scLines (fun vs H Q E h => ?_) (fun cdv A outer s H vs Q E hr h => ?_)
  · obtain ⟨x, rfl, _⟩ := h
    rfl
  · obtain ⟨x, rfl, hx, k⟩ := h
    refine ⟨_, pss_cons (ps_if (pt_cmpR op_eq (pv 0) pe_str (nomark _)) (pss_one (ps_ret (pe_lst pa_nil))) pss_nil)
      (pss_one (ps_ret (pe_split (pv 0) pe_str))), ?_⟩
    refine ⟨_, rfl, rfl, _, rfl, ?_⟩
    unfold linesM at k
    refine ite2 (fun h1 => ?_) (fun h1 => ?_)
    · have e : x = Str.empty := V.str.inj (of_decide_eq_true h1)
      rw [if_pos e] at k
      exact ⟨by decide, fun p np => k p _ (Same.new np) upd_same⟩
    · have e : ¬ x = Str.empty := fun z => h1 (decide_eq_true (congrArg V.str z))
      rw [if_neg e] at k
      refine ⟨_, rfl, ⟨_, rfl⟩, x, _, rfl, rfl, rfl, hx, fun p np => ?_⟩
      exact k p _ (Same.new np) upd_same
end
end K02

set_option Elab.async false
set_option linter.all false
set_option maxRecDepth 100000
set_option maxHeartbeats 8000000
/-! Outlines, a: where ifs and elses lead -/
namespace K02
open PySem L2
abbrev sTargets : Stmt := top 23
abbrev sRead : Stmt := top 25
abbrev sOutl : Stmt := top 26
abbrev sWays : Stmt := top 27
abbrev sAbove : Stmt := top 28
abbrev sRefuse : Stmt := top 29
/-- the targets told so far, the places that wait -/
def tgGo : List St → Nat → List V → List Nat → Option (List V)
  | [], _, tg, _ => some tg
  | .iff _ :: r, i, tg, wt => tgGo r (i + 1) tg (wt ++ [i])
  | .els :: r, i, tg, wt => match wt.getLast? with
    | none => none
    | some j => tgGo r (i + 1) (tg.set j (.int ((i + 2 : Nat) : Int))) (wt.dropLast ++ [i])
  | .nd :: r, i, tg, wt => match wt.getLast? with
    | none => none
    | some j => tgGo r (i + 1) (tg.set j (.int ((i + 2 : Nat) : Int))) wt.dropLast
  | _ :: r, i, tg, wt => tgGo r (i + 1) tg wt
def tgM (sts : List St) : Option (List V) := tgGo sts 0 (List.replicate sts.length .non) []
def StsAt (K : PySem.W.Frag) (H : Hp) : List V → List St → Prop := Paired fun v st => TDp K H v st.d ∧ st.Ok
theorem Paired.get {α β : Type} {F : α → β → Prop} : ∀ {l : List α} {m : List β} {i : Nat} {x : α}, Paired F l m → l[i]? = some x → ∃ y, m[i]? = some y ∧ F x y
  | _, _, i, _, .nil, e => by simp at e
  | _, _, 0, x, .cons h t, e => by
    simp at e
    subst e
    exact ⟨_, by simp, h⟩
  | _, _, i + 1, x, .cons h t, e => by
    simp only [List.getElem?_cons_succ] at e ⊢
    exact Paired.get t e
def spTargets (K : PySem.W.Frag) : Sp := fun vs H Q _ => ∃ (a : Addr) (xs : List V) (sts : List St) (tg : List V), vs = [.ref a] ∧ SqL K H a xs ∧ StsAt K H xs sts ∧ sts.length ≤ 1000 ∧ tgM sts = some tg ∧ ∀ t H', Same H H' → SqT K H' t tg → Q (.ref t) H'
theorem last_at {wt : List Nat} {j : Nat} (h : wt.getLast? = some j) : (wt.map fun n => V.int (n : Nat))[(wt.map fun n => V.int (n : Nat)).length - 1]? = some (.int j) := by
  rw [List.length_map, List.getElem?_map, ← List.getLast?_eq_getElem?, h]
  rfl
theorem ixN_nat {n j : Nat} (h : j < n) : ixN n (j : Int) = some j := by
  unfold ixN
  rw [if_pos (by omega), if_pos (by omega), Int.toNat_natCast]
theorem rep_flat : ∀ n : Nat, (List.replicate n [V.non]).flatten = List.replicate n V.non
  | 0 => rfl
  | n + 1 => by rw [List.replicate_succ, List.flatten_cons, rep_flat n]; rfl
section
variable {P : Program} {w : World} {K : PySem.W.Frag} {mg : Str → Option Value} {base : Heap}
theorem scTargets : FnScope ["steps", "targets", "waiting", "at", "step"] ["steps"] (defScope sTargets) := ⟨rfl, rfl, rfl, by decide +kernel, rfl, by decide +kernel, by decide +kernel⟩
theorem ok_targets {f : Addr} {fd : FuncData} (F : Fun K "targets_of" "targets_of" sTargets f fd) (T : TxtN mg) : FnOk P w K mg base CX0 1 f fd ["steps"] (spTargets K) := by
  refine F.ok scTargets (fun vs H Q E h => ?_) (fun cdv A outer s H vs Q E hr h => ?_)
  · obtain ⟨a, xs, sts, tg, rfl, _⟩ := h
    rfl
  · obtain ⟨a, xs, sts, tgF, rfl, ha, hst, hlen, htg, k⟩ := h
    have hn : xs.length = sts.length := Paired.length hst
    refine ⟨_, pss_cons (ps_set (i := 1) scTargets.nd rfl (.inl rfl) (pe_op op_rep (pe_lst (pa_cons pe_non pa_nil)) (pe_callB call_len_seq (by rfl) T.len PySem.boot_len (pa_cons (pv 0) pa_nil))))
      (pss_cons (ps_set (i := 2) scTargets.nd rfl (.inl rfl) (pe_lst pa_nil))
      (pss_cons (ps_for PassesOwn.never rfl (pi_enum (by rfl) T.enumerate (pa_cons (pv 0) pa_nil)) (pg_tup rfl (pgs_cons (pg_name (i := 3) scTargets.nd rfl (.inl rfl)) (pgs_cons (pg_name (i := 4) scTargets.nd rfl (.inl rfl)) pgs_nil)))
        (pss_one (ps_if (pt_cmpR op_in_seq (pe_ix ix_tup (pv 4) pe_int (fun _ _ => rfl)) (pe_tup (pa_cons pe_str (pa_cons pe_str pa_nil))) (by rfl))
          (pss_one (ps_expr (pe_bm PySem.F.plainAttrs_list PySem.F.slot_list_append PySem.F.type_list_append mt_append (pv 2) (pa_cons (pv 3) pa_nil))))
          (pss_one (ps_if (pt_cmpR op_eq (pe_ix ix_tup (pv 4) pe_int (fun _ _ => rfl)) pe_str (nomark _))
            (pss_cons (ps_asg (pe_op op_add (pv 3) pe_int) (pg_sub (pv 1) (pe_bm0 PySem.F.plainAttrs_list PySem.F.slot_list_pop PySem.F.type_list_pop mt_pop (pv 2)) set_list))
            (pss_one (ps_expr (pe_bm PySem.F.plainAttrs_list PySem.F.slot_list_append PySem.F.type_list_append mt_append (pv 2) (pa_cons (pv 3) pa_nil)))))
            (pss_one (ps_if (pt_cmpR op_eq (pe_ix ix_tup (pv 4) pe_int (fun _ _ => rfl)) pe_str (nomark _))
              (pss_one (ps_asg (pe_op op_add (pv 3) pe_int) (pg_sub (pv 1) (pe_bm0 PySem.F.plainAttrs_list PySem.F.slot_list_pop PySem.F.type_list_pop mt_pop (pv 2)) set_list)))
              pss_nil)))))))
      (pss_one (ps_ret (pe_callTy call_tuple_of (by rfl) T.tuple (by decide +kernel) (pa_cons (pv 1) pa_nil)))))), ?_⟩
    refine ⟨(by show 1 ≤ sizeLine; decide), fun l nl => ⟨_, rfl, a, _, rfl, .inl ((Same.new nl).seq ha), l, _, _, rfl, rfl, upd_same, by omega, by omega, ?_, fun T0 nT => ?_⟩⟩
    · rw [Int.toNat_natCast]
      show 1 * xs.length ≤ sizeLine
      rw [Nat.one_mul]
      exact Nat.le_of_lt (small1000 (by omega))
    rw [Int.toNat_natCast, rep_flat, hn]
    have s1 := (Same.new (o := .lst [V.non]) nl).trans (Same.new (o := .lst (List.replicate sts.length V.non)) nT)
    have HT : H T0 = none := by
      cases e : H T0 with
      | none => rfl
      | some o => exact absurd ((Same.new nl) _ _ e) (by rw [nT]; intro z; cases z)
    refine ⟨(by show 0 ≤ sizeLine; decide), fun W0 nW => ?_⟩
    have s2 := s1.trans (Same.new (o := .lst []) nW)
    have HW : H W0 = none := by
      cases e : H W0 with
      | none => rfl
      | some o => exact absurd (s1 _ _ e) (by rw [nW]; intro z; cases z)
    have TW : T0 ≠ W0 := ne_of_none upd_same nW
    refine ⟨_, rfl, a, xs, rfl, s2.seq ha, for_it walk_enum (fun i σ G => ∃ tg wt v3 v4, σ = [some (.ref a), some (.ref T0), some (.ref W0), v3, v4] ∧ Same H G ∧ G T0 = some (.lst tg) ∧ G W0 = some (.lst (wt.map fun n => V.int (n : Nat))) ∧
      tg.length = sts.length ∧ wt.length ≤ i ∧ (∀ j ∈ wt, j < i) ∧ tgGo (sts.drop i) i tg wt = some tgF)
      ⟨_, [], none, none, rfl, s2, by rw [upd_ne TW]; exact upd_same, upd_same, List.length_replicate, Nat.le_refl _, (fun j z => nomatch z), htg⟩ (fun i σ G _ ⟨_, _, _, _, _, e, _⟩ => e.seq ha) ?_ ?_⟩
    · rintro i y σ G G' hi ⟨tg, wt, v3, v4, rfl, hG, hT, hW, htl, hwl, hwj, hgo⟩ ⟨p, x, v, rfl, np, rfl, ex, ev⟩
      have ex' : x = .int (i : Nat) := (Option.some.inj ex).symm
      subst ex'
      obtain ⟨st, est, hv, hok⟩ := Paired.get hst ev
      have sp1 := Same.new (o := .tup [.int (i : Nat), v]) np
      obtain ⟨b, rest, rfl, hb1⟩ := St.head (hv.keep (Same.tk (hG.trans sp1)))
      rw [drop_cons est] at hgo
      refine ⟨p, _, rfl, SqT.of upd_same, rfl, _, _, rfl, _, _, rfl, rfl, ?_⟩
      refine ⟨_, rfl, b, _, 0, _, rfl, rfl, hb1, atI_nat (j := 0) rfl, (by show 2 ≤ sizeLine; decide), fun q nq => ?_⟩
      have sp := sp1.trans (Same.new (o := .tup [.str "if", .str "while"]) nq)
      have hG2 := hG.trans sp
      have hT2 := sp _ _ hT
      have hW2 := sp _ _ hW
      have hb := Same.tk (Same.new (o := .tup [.str "if", .str "while"]) nq) _ _ _ hb1
      refine ⟨q, _, rfl, .inr (SqT.of upd_same), rfl, rfl, ?_⟩
      rw [if_neg Bool.false_ne_true]
      refine ⟨_, rfl, ?_⟩
      have hi' : i < 1000 := by omega
      have hin : ∀ {x : Str}, ¬ x = "if" → ¬ x = "while" → inV (V.str x) [V.str "if", V.str "while"] = false := fun {x} h1 h2 => (inV_str x [("if" : Str), "while"]).trans (decide_eq_false fun z => by
        rcases List.mem_cons.mp z with e | e
        · exact h1 e
        · exact h2 (List.mem_singleton.mp e))
      have hnw : ¬ st.sort = "while" := by
        cases st with
        | fin x =>
          intro z
          have z' : x = _ := z
          rcases hok with e | e
          · rw [e] at z'
            exact absurd z' (by decide +kernel)
          · rw [e] at z'
            exact absurd z' (by decide +kernel)
        | set n sm sg c =>
          show ¬ ("set" : Str) = "while"
          decide +kernel
        | iff t =>
          show ¬ ("if" : Str) = "while"
          decide +kernel
        | els =>
          show ¬ ("else" : Str) = "while"
          decide +kernel
        | nd =>
          show ¬ ("end" : Str) = "while"
          decide +kernel
      have e2 : ∀ x y : Str, x ≠ y → (decide (V.str x = V.str y)) = false := fun x y h => decide_eq_false fun z => h (V.str.inj z)
      by_cases hs3 : ¬ st.sort = "if" ∧ ¬ st.sort = "else" ∧ ¬ st.sort = "end"
      · have g : tgGo (sts.drop (i + 1)) (i + 1) tg wt = some tgF := by
          cases st with
          | fin x => exact hgo
          | set n sm sg c => exact hgo
          | iff t => exact absurd rfl hs3.1
          | els => exact absurd rfl hs3.2.1
          | nd => exact absurd rfl hs3.2.2
        refine ifF3 (hin hs3.1 hnw) ?_
        refine ⟨_, rfl, b, _, 0, _, rfl, rfl, hb, atI_nat (j := 0) rfl, rfl, _, rfl, ?_⟩
        refine ifF3 (e2 _ _ hs3.2.1) ?_
        refine ⟨_, rfl, b, _, 0, _, rfl, rfl, hb, atI_nat (j := 0) rfl, rfl, _, rfl, ?_⟩
        refine ifF3 (e2 _ _ hs3.2.2) ?_
        exact ⟨tg, wt, _, _, rfl, hG2, hT2, hW2, htl, by omega, (fun j hj => Nat.lt_succ_of_lt (hwj j hj)), g⟩
      have popped : ∀ j, wt.getLast? = some j → j < i ∧ wt ≠ [] := fun j hj => ⟨hwj j (List.mem_of_getLast? hj), fun z => by rw [z] at hj; cases hj⟩
      cases st with
      | fin x =>
        refine absurd ⟨fun z => ?_, fun z => ?_, fun z => ?_⟩ hs3
        all_goals
        · have z' : x = _ := z
          rcases hok with e | e
          · rw [e] at z'
            exact absurd z' (by decide +kernel)
          · rw [e] at z'
            exact absurd z' (by decide +kernel)
      | set n sm sg c =>
        have z1 : ¬ ("set" : Str) = "if" := by decide +kernel
        have z2 : ¬ ("set" : Str) = "else" := by decide +kernel
        have z3 : ¬ ("set" : Str) = "end" := by decide +kernel
        exact absurd ⟨z1, z2, z3⟩ hs3
      | iff t =>
        refine ifT3 ((inV_str "if" [("if" : Str), "while"]).trans (decide_eq_true (List.mem_cons_self ..))) ?_
        refine ⟨_, rfl, .inl ⟨rfl, _, SqL.of hW2⟩, _, rfl, W0, _, _, rfl, rfl, hW2, small1000 (by rw [List.length_map]; omega), ?_⟩
        exact ⟨tg, wt ++ [i], _, _, rfl, Same.write hG2 HW, by rw [upd_ne TW]; exact hT2, by rw [List.map_append]; exact upd_same, htl, by rw [List.length_append]; exact Nat.succ_le_succ hwl, (fun j hj => by
          rcases List.mem_append.mp hj with e | e
          · exact Nat.lt_succ_of_lt (hwj j e)
          · rw [List.mem_singleton.mp e]; exact Nat.lt_succ_self _), hgo⟩
      | els =>
        have z1 : ¬ ("else" : Str) = "if" := by decide +kernel
        refine ifF3 (hin z1 hnw) ?_
        refine ⟨_, rfl, b, _, 0, _, rfl, rfl, hb, atI_nat (j := 0) rfl, rfl, _, rfl, ?_⟩
        refine ifT3 (decide_eq_true rfl) ?_
        have hgo' : (match wt.getLast? with
          | none => none
          | some j => tgGo (sts.drop (i + 1)) (i + 1) (tg.set j (.int ((i + 2 : Nat) : Int))) (wt.dropLast ++ [i])) = some tgF := hgo
        cases ej : wt.getLast? with
        | none => rw [ej] at hgo'; cases hgo'
        | some j =>
        rw [ej] at hgo'
        obtain ⟨hji, hne⟩ := popped j ej
        refine ⟨_, rfl, _, _, rfl, rfl, _, rfl, _, rfl, .inl ⟨rfl, _, SqL.of hW2⟩, W0, _, _, rfl, rfl, hW2, last_at ej, ?_⟩
        refine ⟨T0, _, _, j, rfl, rfl, (by rw [upd_ne TW]; exact hT2), ixN_nat (by omega), ?_⟩
        have hW3 : (upd (upd (upd (upd G p (.tup [.int (i : Nat), .ref b])) q (.tup [.str "if", .str "while"])) W0 (.lst (wt.map fun n => V.int (n : Nat)).dropLast)) T0 (.lst (tg.set j (.int ((i : Int) + 2))))) W0 = some (.lst (wt.dropLast.map fun n => V.int (n : Nat))) := by
          rw [upd_ne TW.symm, upd_same, List.map_dropLast]
        refine ⟨_, rfl, .inl ⟨rfl, _, SqL.of hW3⟩, _, rfl, W0, _, _, rfl, rfl, hW3, small1000 (by rw [List.length_map, List.length_dropLast]; omega), ?_⟩
        exact ⟨_, wt.dropLast ++ [i], _, _, rfl, Same.write (Same.write (Same.write hG2 HW) HT) HW, by rw [upd_ne TW]; exact upd_same, by rw [List.map_append]; exact upd_same, by rw [List.length_set]; exact htl, by rw [List.length_append, List.length_dropLast]; show wt.length - 1 + 1 ≤ i + 1; omega, (fun j hj => by
          rcases List.mem_append.mp hj with e | e
          · exact Nat.lt_succ_of_lt (hwj j (List.dropLast_subset _ e))
          · rw [List.mem_singleton.mp e]; exact Nat.lt_succ_self _), hgo'⟩
      | nd =>
        have z1 : ¬ ("end" : Str) = "if" := by decide +kernel
        have z2 : ¬ ("end" : Str) = "else" := by decide +kernel
        refine ifF3 (hin z1 hnw) ?_
        refine ⟨_, rfl, b, _, 0, _, rfl, rfl, hb, atI_nat (j := 0) rfl, rfl, _, rfl, ?_⟩
        refine ifF3 (e2 _ _ z2) ?_
        refine ⟨_, rfl, b, _, 0, _, rfl, rfl, hb, atI_nat (j := 0) rfl, rfl, _, rfl, ?_⟩
        refine ifT3 (decide_eq_true rfl) ?_
        have hgo' : (match wt.getLast? with
          | none => none
          | some j => tgGo (sts.drop (i + 1)) (i + 1) (tg.set j (.int ((i + 2 : Nat) : Int))) wt.dropLast) = some tgF := hgo
        cases ej : wt.getLast? with
        | none => rw [ej] at hgo'; cases hgo'
        | some j =>
        rw [ej] at hgo'
        obtain ⟨hji, hne⟩ := popped j ej
        refine ⟨_, rfl, _, _, rfl, rfl, _, rfl, _, rfl, .inl ⟨rfl, _, SqL.of hW2⟩, W0, _, _, rfl, rfl, hW2, last_at ej, ?_⟩
        refine ⟨T0, _, _, j, rfl, rfl, (by rw [upd_ne TW]; exact hT2), ixN_nat (by omega), ?_⟩
        exact ⟨_, wt.dropLast, _, _, rfl, Same.write (Same.write hG2 HW) HT, upd_same, by rw [upd_ne TW.symm, upd_same, List.map_dropLast], by rw [List.length_set]; exact htl, by rw [List.length_dropLast]; omega, (fun j hj => Nat.lt_succ_of_lt (hwj j (List.dropLast_subset _ hj))), hgo'⟩
    · rintro σ G ⟨tg, wt, v3, v4, rfl, hG, hT, hW, htl, hwl, hwj, hgo⟩
      rw [List.drop_of_length_le (by omega)] at hgo
      have e : tg = tgF := Option.some.inj hgo
      subst e
      refine ⟨_, rfl, T0, _, rfl, .inl ⟨SqL.of hT, fun t nt => ?_⟩⟩
      exact k t _ (hG.trans (Same.new nt)) (SqT.of upd_same)
end
end K02

set_option Elab.async false
set_option linter.all false
set_option maxRecDepth 100000
set_option maxHeartbeats 8000000
/-! Outlines, b: the class -/
namespace K02
open PySem L2
abbrev sOI : Stmt := inClass (top 22) 0
abbrev sStepAt : Stmt := inClass (top 22) 1
abbrev sTargetAt : Stmt := inClass (top 22) 2
abbrev sMany : Stmt := inClass (top 22) 3
theorem PSs.ghost {X : Cx} {st : List Stmt} : PSs X st (fun _ _ _ => False) := ⟨fun _ _ _ _ _ _ z => z.elim⟩
theorem PS.ghost {X : Cx} {st : Stmt} : PS X st (fun _ _ _ => False) := ⟨fun _ _ _ _ _ _ z => z.elim⟩
theorem kRS : ¬ (("rows" : Str) = "steps") := by decide +kernel
theorem kRT : ¬ (("rows" : Str) = "targets") := by decide +kernel
theorem kST : ¬ (("steps" : Str) = "targets") := by decide +kernel
/-- an outline's fields -/
def oFl (r s t : Addr) : List (Str × V) := putF "targets" (.ref t) (putF "steps" (.ref s) (putF "rows" (.ref r) []))
theorem oFl_r (r s t : Addr) : (oFl r s t).lookup ("rows" : Str) = some (.ref r) := by
  unfold oFl
  rw [lookup_putF, if_neg kRT, lookup_putF, if_neg kRS, lookup_putF, if_pos rfl]
theorem oFl_s (r s t : Addr) : (oFl r s t).lookup ("steps" : Str) = some (.ref s) := by
  unfold oFl
  rw [lookup_putF, if_neg kST, lookup_putF, if_pos rfl]
theorem oFl_t (r s t : Addr) : (oFl r s t).lookup ("targets" : Str) = some (.ref t) := by
  unfold oFl
  rw [lookup_putF, if_pos rfl]
theorem oFl_no (r s t : Addr) {m : Str} (h1 : ¬ m = "rows") (h2 : ¬ m = "steps") (h3 : ¬ m = "targets") : (oFl r s t).lookup m = none := by
  unfold oFl
  rw [lookup_putF, if_neg h3, lookup_putF, if_neg h2, lookup_putF, if_neg h1]
  all_goals rfl
structure TxtO (K : PySem.W.Frag) (mg : Str → Option Value) (C : Addr) : Prop where
  cl : Cls K C
  nR : NoAttr K C "rows"
  nS : NoAttr K C "steps"
  nT : NoAttr K C "targets"
  mgC : mg "Outline" = some (.ref C)
/-- an outline stands at p -/
structure OutAt (K : PySem.W.Frag) (C : Addr) (H : Hp) (p : Addr) (rows : List Str) (xs : List V) (sts : List St) (tg : List V) : Prop where
  ob : ∃ dx r s t, H p = some (.ins C dx (oFl r s t)) ∧ SqT K H r (rows.map V.str) ∧ SqT K H s xs ∧ SqT K H t tg
  st : StsAt K H xs sts
theorem StsAt.keep {K : PySem.W.Frag} {H H' : Hp} (t : Tk H H') : ∀ {xs : List V} {sts : List St}, StsAt K H xs sts → StsAt K H' xs sts
  | _, _, .nil => .nil
  | _, _, .cons h r => .cons ⟨h.1.keep t, h.2⟩ (StsAt.keep t r)
theorem OutAt.keep {K : PySem.W.Frag} {C : Addr} {H H' : Hp} {p : Addr} {rows : List Str} {xs : List V} {sts : List St} {tg : List V} (h : OutAt K C H p rows xs sts tg) (s : Same H H') : OutAt K C H' p rows xs sts tg := by
  obtain ⟨⟨dx, r, u, t, e, h1, h2, h3⟩, h4⟩ := h
  exact ⟨⟨dx, r, u, t, s _ _ e, seqT s h1, seqT s h2, seqT s h3⟩, h4.keep (Same.tk s)⟩
/-- all but what stands at p is kept -/
def But (p : Addr) (H H' : Hp) : Prop := ∀ b o, H b = some o → b ≠ p → H' b = some o
theorem But.same {p : Addr} {H H' : Hp} (s : Same H H') : But p H H' := fun b o e _ => s b o e
theorem But.trans {p : Addr} {A B C : Hp} (h : But p A B) (k : But p B C) : But p A C := fun b o e n => k b o (h b o e n) n
theorem But.upd {p : Addr} {H : Hp} {o : HO} : But p H (upd H p o) := fun b u e n => by
  rw [upd_ne n]
  exact e
theorem But.tk {p : Addr} {H H' : Hp} {u : HO} (b : But p H H') (hp : H p = some u) (h1 : ∀ xs, u ≠ .tup xs := by intro _ z; cases z) (h2 : ∀ ob y, u ≠ .frz ob y := by intro _ _ z; cases z) : Tk H H' := fun K a xs h => by
  rcases h with (h | ⟨ob, h⟩) | h
  · exact .inl (.inl (b _ _ h fun z => h1 _ (by rw [z] at h; exact Option.some.inj (hp.symm.trans h))))
  · exact .inl (.inr ⟨ob, b _ _ h fun z => h2 _ _ (by rw [z] at h; exact Option.some.inj (hp.symm.trans h))⟩)
  · exact .inr h
theorem But.seq {p : Addr} {H H' : Hp} {u : HO} {K : PySem.W.Frag} {a : Addr} {xs : List V} (b : But p H H') (hp : H p = some u) (h : SqL K H a xs) (h1 : ∀ ys, u ≠ .lst ys := by intro _ z; cases z) (h2 : ∀ ob y, u ≠ .frz ob y := by intro _ _ z; cases z) : SqL K H' a xs := by
  rcases h with (h | ⟨ob, h⟩) | h
  · exact .inl (.inl (b _ _ h fun z => h1 _ (by rw [z] at h; exact Option.some.inj (hp.symm.trans h))))
  · exact .inl (.inr ⟨ob, b _ _ h fun z => h2 _ _ (by rw [z] at h; exact Option.some.inj (hp.symm.trans h))⟩)
  · exact .inr h
def spOI (K : PySem.W.Frag) (C : Addr) : Sp := fun vs H Q _ => ∃ (p dx ar as : Addr) (rows : List Str) (xs : List V) (sts : List St) (tg : List V), vs = [.ref p, .ref ar, .ref as] ∧ H p = some (.ins C dx []) ∧ SqL K H ar (rows.map V.str) ∧ SqL K H as xs ∧ StsAt K H xs sts ∧ sts.length ≤ 1000 ∧ tgM sts = some tg ∧
  ∀ H', But p H H' → OutAt K C H' p rows xs sts tg → Q .non H'
def spStepAt (K : PySem.W.Frag) (C : Addr) : Sp := fun vs H Q _ => ∃ (p : Addr) (rows : List Str) (xs : List V) (sts : List St) (tg : List V) (i : Nat) (v : V), vs = [.ref p, .int ((i + 1 : Nat) : Int)] ∧ OutAt K C H p rows xs sts tg ∧ xs[i]? = some v ∧ Q v H
def spTargetAt (K : PySem.W.Frag) (C : Addr) : Sp := fun vs H Q _ => ∃ (p : Addr) (rows : List Str) (xs : List V) (sts : List St) (tg : List V) (i : Nat) (v : V), vs = [.ref p, .int ((i + 1 : Nat) : Int)] ∧ OutAt K C H p rows xs sts tg ∧ tg[i]? = some v ∧ Q v H
def spMany (K : PySem.W.Frag) (C : Addr) : Sp := fun vs H Q _ => ∃ (p : Addr) (rows : List Str) (xs : List V) (sts : List St) (tg : List V), vs = [.ref p] ∧ OutAt K C H p rows xs sts tg ∧ Q (.int (xs.length : Nat)) H
section
variable {P : Program} {w : World} {K : PySem.W.Frag} {mg : Str → Option Value} {base : Heap}
theorem scOI : FnScope ["self", "rows", "steps"] ["self", "rows", "steps"] (defScope sOI) := ⟨rfl, rfl, rfl, by decide +kernel, rfl, by decide +kernel, by decide +kernel⟩
theorem ok_oinit {f C fT : Addr} {fd fdT : FuncData} (F : Fun K "__init__" "Outline.__init__" sOI f fd) (T : TxtN mg) (O : TxtO K mg C)
    (GT : FnOk P w K mg base CX0 1 fT fdT ["steps"] (spTargets K)) (kT : PySem.W.keepIn K (.ref fT) = true) (bT : Binds K fdT ["steps"] []) (gT : mg "targets_of" = some (.ref fT)) : FnOk P w K mg base CX0 2 f fd ["self", "rows", "steps"] (spOI K C) := by
  refine F.ok scOI (fun vs H Q E h => ?_) (fun cdv A outer s H vs Q E hr h => ?_)
  · obtain ⟨p, dx, ar, as, rows, xs, sts, tg, rfl, _⟩ := h
    rfl
  · obtain ⟨p, dx, ar, as, rows, xs, sts, tg, rfl, hp, har, has, hst, hlen, htg, k⟩ := h
    refine ⟨_, pss_cons (ps_fld (pv 0) (pe_callTy call_tuple_of (by rfl) T.tuple (by decide +kernel) (pa_cons (pv 1) pa_nil)) rfl)
      (pss_cons (ps_fld (pv 0) (pe_callTy call_tuple_of (by rfl) T.tuple (by decide +kernel) (pa_cons (pv 2) pa_nil)) rfl)
      (pss_one (ps_fld (pv 0) (pe_call GT hr rfl gT kT bT .nil pass0 (pa_cons (pv 2) pa_nil)) rfl))), ?_⟩
    refine ⟨_, rfl, ar, _, rfl, .inl ⟨har, fun t1 n1 => ?_⟩⟩
    have s1 := Same.new (o := .tup (rows.map V.str)) n1
    have b1 : But p H _ := But.trans (But.same s1) (But.upd (p := p) (o := .ins C dx (putF "rows" (.ref t1) [])))
    have p1 : t1 ≠ p := (ne_of_none hp n1).symm
    refine ⟨_, rfl, p, C, dx, [], rfl, s1 _ _ hp, O.cl, O.nR, (by show 0 < 1000; decide), ?_⟩
    refine ⟨_, rfl, as, _, rfl, .inl ⟨b1.seq hp has, fun t2 n2 => ?_⟩⟩
    have s2 := Same.new (o := .tup xs) n2
    have p2 : t2 ≠ p := (ne_of_none upd_same n2).symm
    refine ⟨_, rfl, p, C, dx, _, rfl, s2 _ _ upd_same, O.cl, O.nS, (by show 1 < 1000; decide), ?_⟩
    have b2 : But p H _ := But.trans (But.trans b1 (But.same s2)) (But.upd (p := p) (o := .ins C dx (putF "steps" (.ref t2) (putF "rows" (.ref t1) []))))
    refine ⟨_, rfl, as, xs, sts, tg, rfl, b2.seq hp has, hst.keep (b2.tk hp), hlen, htg, fun t3 G s3 h3 => ?_⟩
    refine ⟨_, rfl, p, C, dx, _, rfl, s3 _ _ upd_same, O.cl, O.nT, (by show 2 < 1000; decide), ?_⟩
    have pG := s3 _ _ (upd_same (a := p))
    have b3 : But p H _ := But.trans (But.trans b2 (But.same s3)) (But.upd (p := p) (o := .ins C dx (oFl t1 t2 t3)))
    refine k _ b3 ⟨⟨dx, t1, t2, t3, upd_same, ?_, ?_, But.tk But.upd pG (by intro _ z; cases z) (by intro _ _ z; cases z) K _ _ h3⟩, hst.keep (b3.tk hp)⟩
    · refine SqT.of ?_
      rw [upd_ne p1]
      refine s3 _ _ ?_
      rw [upd_ne p1]
      refine s2 _ _ ?_
      rw [upd_ne p1]
      exact upd_same
    · refine SqT.of ?_
      rw [upd_ne p2]
      refine s3 _ _ ?_
      rw [upd_ne p2]
      exact upd_same
theorem scStepAt : FnScope ["self", "line"] ["self", "line"] (defScope sStepAt) := ⟨rfl, rfl, rfl, by decide +kernel, rfl, by decide +kernel, by decide +kernel⟩
theorem ok_stepat {f C : Addr} {fd : FuncData} (F : Fun K "step_at" "Outline.step_at" sStepAt f fd) (O : TxtO K mg C) : FnOk P w K mg base CX0 1 f fd ["self", "line"] (spStepAt K C) := by
  refine F.ok scStepAt (fun vs H Q E h => ?_) (fun cdv A outer s H vs Q E hr h => ?_)
  · obtain ⟨p, rows, xs, sts, tg, i, v, rfl, _⟩ := h
    rfl
  · obtain ⟨p, rows, xs, sts, tg, i, v, rfl, hO, hv, k⟩ := h
    obtain ⟨⟨dx, r, u, t, e, h1, h2, h3⟩, h4⟩ := hO
    refine ⟨_, pss_one (ps_ret (pe_ix ix_tup (pe_fld (pv 0) rfl) (pe_op op_sub (pv 1) pe_int) (fun _ _ => rfl))), ?_⟩
    refine ⟨_, rfl, p, C, dx, _, _, rfl, e, O.cl, O.nS, oFl_s _ _ _, _, rfl, _, _, rfl, rfl, u, _, _, _, rfl, rfl, h2, ?_, k⟩
    rw [show ((i + 1 : Nat) : Int) - 1 = (i : Int) by omega]
    exact atI_nat hv
theorem scTargetAt : FnScope ["self", "line"] ["self", "line"] (defScope sTargetAt) := ⟨rfl, rfl, rfl, by decide +kernel, rfl, by decide +kernel, by decide +kernel⟩
theorem ok_targetat {f C : Addr} {fd : FuncData} (F : Fun K "target_at" "Outline.target_at" sTargetAt f fd) (O : TxtO K mg C) : FnOk P w K mg base CX0 1 f fd ["self", "line"] (spTargetAt K C) := by
  refine F.ok scTargetAt (fun vs H Q E h => ?_) (fun cdv A outer s H vs Q E hr h => ?_)
  · obtain ⟨p, rows, xs, sts, tg, i, v, rfl, _⟩ := h
    rfl
  · obtain ⟨p, rows, xs, sts, tg, i, v, rfl, hO, hv, k⟩ := h
    obtain ⟨⟨dx, r, u, t, e, h1, h2, h3⟩, h4⟩ := hO
    refine ⟨_, pss_one (ps_ret (pe_ix ix_tup (pe_fld (pv 0) rfl) (pe_op op_sub (pv 1) pe_int) (fun _ _ => rfl))), ?_⟩
    refine ⟨_, rfl, p, C, dx, _, _, rfl, e, O.cl, O.nT, oFl_t _ _ _, _, rfl, _, _, rfl, rfl, t, _, _, _, rfl, rfl, h3, ?_, k⟩
    rw [show ((i + 1 : Nat) : Int) - 1 = (i : Int) by omega]
    exact atI_nat hv
theorem scMany : FnScope ["self"] ["self"] (defScope sMany) := ⟨rfl, rfl, rfl, by decide +kernel, rfl, by decide +kernel, by decide +kernel⟩
theorem ok_many {f C : Addr} {fd : FuncData} (F : Fun K "many_lines" "Outline.many_lines" sMany f fd) (T : TxtN mg) (O : TxtO K mg C) : FnOk P w K mg base CX0 1 f fd ["self"] (spMany K C) := by
  refine F.ok scMany (fun vs H Q E h => ?_) (fun cdv A outer s H vs Q E hr h => ?_)
  · obtain ⟨p, rows, xs, sts, tg, rfl, _⟩ := h
    rfl
  · obtain ⟨p, rows, xs, sts, tg, rfl, hO, k⟩ := h
    obtain ⟨⟨dx, r, u, t, e, h1, h2, h3⟩, h4⟩ := hO
    refine ⟨_, pss_one (ps_ret (pe_callB call_len_seq (by rfl) T.len PySem.boot_len (pa_cons (pe_fld (pv 0) rfl) pa_nil))), ?_⟩
    exact ⟨_, rfl, p, C, dx, _, _, rfl, e, O.cl, O.nS, oFl_s _ _ _, u, _, rfl, .inr h2, k⟩
end
end K02

set_option Elab.async false
set_option linter.all false
set_option maxRecDepth 100000
set_option maxHeartbeats 8000000
/-! Outlines, c: a line read -/
namespace K02
open PySem L2
def stepSetS (kd : Str) (ws : List Str) (w0 : Str) : Option St := match sumM (ws.drop 2) (namesM kd) with
  | some acc => some (.set w0 (sumD acc) none 0)
  | none => match sumM ((ws.drop 2).take (ws.length - 4)) (namesM kd) with
    | none => none
    | some acc => match operM (last2 ws) (last1 ws) with
      | none => none
      | some n => some (.set w0 (sumD acc) (some (last2 ws)) n)
def stepS (kd : Str) (ws : List Str) : Option St := if ws = [("quit" : Str)] then some (.fin "quit") else if ws = [("no" : Str)] ∧ kd = "round" then some (.fin "no") else if ws.length < 3 then none else
  if ws.getD 1 Str.empty = "=" ∧ ws.getD 0 Str.empty ∈ regs ++ [toldM kd] then stepSetS kd ws (ws.getD 0 Str.empty) else none
theorem step_d (kd : Str) (ws : List Str) : stepM kd ws = (stepS kd ws).map St.d := by
  unfold stepM stepS
  split
  · rfl
  split
  · rfl
  split
  · rfl
  split
  · unfold stepSet stepSetS
    cases sumM (ws.drop 2) (namesM kd) with
    | some acc => rfl
    | none =>
      cases sumM ((ws.drop 2).take (ws.length - 4)) (namesM kd) with
      | none => rfl
      | some acc =>
        cases operM (last2 ws) (last1 ws) with
        | none => rfl
        | some n => rfl
  · rfl
theorem step_ok {kd : Str} {ws : List Str} {st : St} (h : stepS kd ws = some st) : st.Ok := by
  unfold stepS at h
  split at h
  · cases h
    exact .inl rfl
  split at h
  · cases h
    exact .inr rfl
  split at h
  · cases h
  split at h
  · unfold stepSetS at h
    split at h
    · cases h
      trivial
    · split at h
      · cases h
      · split at h
        · cases h
        · cases h
          trivial
  · cases h
/-- a line read: what it does, the open blocks behind it -/
def readS (kd : Str) (ws nest : List Str) : Option (St × List Str) := if ws.getD 0 Str.empty = "if" then (testM (hPartM kd) (ws.drop 1)).map fun t => (.iff t, nest ++ [("if" : Str)])
  else if ws = [("else" : Str)] then (if nest = [] ∨ nest.getLast? = some ("else" : Str) then none else some (.els, nest.dropLast ++ [("else" : Str)]))
  else if ws = [("end" : Str)] then (if nest = [] then none else some (.nd, nest.dropLast))
  else (stepS kd ws).map fun st => (st, nest)
theorem read_ok {kd : Str} {ws nest n2 : List Str} {st : St} (h : readS kd ws nest = some (st, n2)) : st.Ok := by
  unfold readS at h
  split at h
  · cases e : testM (hPartM kd) (ws.drop 1) with
    | none => rw [e] at h; cases h
    | some t => rw [e] at h; cases h; trivial
  split at h
  · split at h
    · cases h
    · cases h; trivial
  split at h
  · split at h
    · cases h
    · cases h; trivial
  · cases e : stepS kd ws with
    | none => rw [e] at h; cases h
    | some s => rw [e] at h; cases h; exact step_ok e
/-- no open while -/
def NoWh (nest : List Str) : Prop := ∀ x ∈ nest, ¬ x = ("while" : Str)
theorem NoWh.nil : NoWh [] := fun _ z => by cases z
theorem read_noWh {kd : Str} {ws nest n2 : List Str} {st : St} (h : readS kd ws nest = some (st, n2)) (hn : NoWh nest) : NoWh n2 := by
  have dl : ∀ x ∈ nest.dropLast, ¬ x = ("while" : Str) := fun x hx => hn x (List.dropLast_subset _ hx)
  unfold readS at h
  split at h
  · cases e : testM (hPartM kd) (ws.drop 1) with
    | none => rw [e] at h; cases h
    | some t =>
      rw [e] at h
      cases h
      intro x hx
      rcases List.mem_append.mp hx with hx | hx
      · exact hn x hx
      · rw [List.mem_singleton.mp hx]; decide +kernel
  split at h
  · split at h
    · cases h
    · cases h
      intro x hx
      rcases List.mem_append.mp hx with hx | hx
      · exact dl x hx
      · rw [List.mem_singleton.mp hx]; decide +kernel
  split at h
  · split at h
    · cases h
    · cases h
      exact dl
  · cases e : stepS kd ws with
    | none => rw [e] at h; cases h
    | some s => rw [e] at h; cases h; exact hn
def ReadV (K : PySem.W.Frag) (H : Hp) (v : V) (nest' : List Str) : Option (St × List Str) → Prop
  | none => v = .non
  | some (st, n2) => nest' = n2 ∧ v ≠ .non ∧ TDp K H v st.d
def spRead (K : PySem.W.Frag) (fS fP : Addr) : Sp := fun vs H Q _ => ∃ (a N : Addr) (ws nest : List Str) (kd : Str), vs = [.ref a, .str kd, .ref fS, .ref fP, .non, .ref N] ∧ NoWh nest ∧ kd ∈ kindsL ∧ SqL K H a (ws.map V.str) ∧ WsOk ws ∧ ws ≠ [] ∧ ws.length ≤ 1000 ∧
  H N = some (.lst (nest.map V.str)) ∧ nest.length ≤ 1000 ∧ ∀ (v : V) (H' : Hp) (nest' : List Str), But N H H' → H' N = some (.lst (nest'.map V.str)) → ReadV K H' v nest' (readS kd ws nest) → Q v H'
theorem nest_lastV {nest : List Str} {l : Str} (e : nest.getLast? = some l) : (nest.map V.str)[(nest.map V.str).length - 1]? = some (.str l) := by
  rw [List.length_map, List.getElem?_map, ← List.getLast?_eq_getElem?, e]
  rfl
theorem and_nest {K : PySem.W.Frag} {N : Addr} {nest : List Str} {tB : TT} {σ : L2.St} {H : Hp} {Q : Bool → Hp → Prop} (h5 : σ[5]? = some (some (.ref N))) (hN : H N = some (.lst (nest.map V.str))) (hnw : NoWh nest) (q : Q false H) :
    tAnd (fun σ H Q => tVar 5 σ H fun x H' => ∃ k, TruV K x H' k ∧ Q k H') (tAnd (tTest (tOp rEq (tOp (rIxL K) (tVar 5) (tUn (rU fun i => V.int (-i)) (tC (V.int 1)))) (tC (V.str "while")))) tB) σ H Q := by
  refine ⟨_, h5, ?_⟩
  by_cases hne : nest = []
  · refine ⟨false, .inl ⟨_, SqL.of hN, by rw [hne]; rfl⟩, ?_⟩
    exact iteF q
  · refine ⟨true, .inl ⟨_, SqL.of hN, by
      cases nest with
      | nil => exact absurd rfl hne
      | cons x r => rfl⟩, ?_⟩
    refine iteT ?_
    cases el : nest.getLast? with
    | none => exact absurd (List.getLast?_eq_none_iff.mp el) hne
    | some l =>
    have hpos : 1 ≤ nest.length := List.length_pos_iff.mpr hne
    have hat : atI (nest.map V.str) (-1) = some (.str (nest.getD (nest.length - 1) Str.empty)) := at_neg (ws := nest) (i := 1) (by decide) hpos
    have hl : nest.getD (nest.length - 1) Str.empty ∈ nest := by
      rw [List.getD_eq_getElem?_getD, List.getElem?_eq_getElem (by omega)]
      exact List.getElem_mem _
    refine ⟨_, h5, _, rfl, N, _, -1, _, rfl, rfl, SqL.of hN, hat, rfl, _, rfl, ?_⟩
    exact ifF3 (decide_eq_false fun z => hnw _ hl (V.str.inj z)) q
theorem and_while {K : PySem.W.Frag} {a : Addr} {ws : List Str} {σ : L2.St} {H : Hp} {Q : Bool → Hp → Prop} (h0 : σ[0]? = some (some (.ref a))) (h4 : σ[4]? = some (some .non)) (ha : SqL K H a (ws.map V.str)) (hne : ws ≠ []) (q : Q false H) :
    tAnd (tTest (tOp rEq (tOp (rIxL K) (tVar 0) (tC (V.int 0))) (tC (V.str "while")))) (tTest (tOp (fun x y H Q => y = V.non ∧ Q (V.bl !decide (x = V.non)) H) (tVar 4) (tC V.non))) σ H Q := by
  have at0 := at_pos (ws := ws) (i := 0) (List.length_pos_iff.mpr hne)
  refine ⟨_, h0, a, _, 0, _, rfl, rfl, ha, at0, rfl, _, rfl, ?_⟩
  refine ite2 (fun _ => ?_) (fun _ => ?_)
  · exact ⟨_, h4, rfl, _, rfl, q⟩
  · exact q
section
variable {P : Program} {w : World} {K : PySem.W.Frag} {mg : Str → Option Value} {base : Heap}
theorem scRead : FnScope ["words", "kind", "step_in", "part_in", "loop_in", "nest", "test"] ["words", "kind", "step_in", "part_in", "loop_in", "nest"] (defScope sRead) := ⟨rfl, rfl, rfl, by decide +kernel, rfl, by decide +kernel, by decide +kernel⟩
theorem ok_read {f fT fS fP : Addr} {fd fdT fdS : FuncData} (F : Fun K "read_line" "read_line" sRead f fd)
    (GT : FnOk P w K mg base CX0 5 fT fdT ["words", "part_in", "kind"] (spTestIn K fP kindsL hPartM)) (kT : PySem.W.keepIn K (.ref fT) = true) (bT : Binds K fdT ["words", "part_in", "kind"] []) (gT : mg "test_in" = some (.ref fT))
    (GS : FnOk P w K mg base CX0 4 fS fdS ["words", "kind"] (spStepIn K kindsL stepM)) (kS : PySem.W.keepIn K (.ref fS) = true) (bS : Binds K fdS ["words", "kind"] []) : FnOk P w K mg base CX0 6 f fd ["words", "kind", "step_in", "part_in", "loop_in", "nest"] (spRead K fS fP) := by
  refine F.ok scRead (fun vs H Q E h => ?_) (fun cdv A outer s H vs Q E hr h => ?_)
  · obtain ⟨a, N, ws, nest, kd, rfl, _⟩ := h
    rfl
  · obtain ⟨a, N, ws, nest, kd, rfl, hnw, hkd, ha, hok, hne, hlen, hN, hnl, k⟩ := h
    have hr4 : Room 4 _ := hr.mono (by decide)
    refine ⟨_, pss_cons (ps_if (PW.pt (pw_and (pt_truth (pv 5) (by intro _; rfl)) (pw_and (pt_cmpR op_eq (pe_ix ix_list (pv 5) (pe_un un_neg pe_int) (fun _ _ => rfl)) pe_str (nomark _)) (pw_and1 (pt_cmpR (op_neD hr.units) (pv 0) (pe_lst (pa_cons pe_str pa_nil)) (nomark _)))))) (pss_one PS.ghost) pss_nil)
      (pss_cons (ps_if (PW.pt (pw_and (pt_cmpR op_eq (pe_ix ix_list (pv 0) pe_int (fun _ _ => rfl)) pe_str (nomark _)) (pw_and1 (pt_cmpR op_notN (pv 4) pe_non (nomark _))))) (pss_one PS.ghost) pss_nil)
      (pss_cons (ps_if (pt_cmpR op_eq (pe_ix ix_list (pv 0) pe_int (fun _ _ => rfl)) pe_str (nomark _))
        (pss_cons (ps_set (i := 6) scRead.nd rfl (.inl rfl) (pe_call GT hr rfl gT kT bT .nil pass0 (pa_cons (pe_slice sl_list (pv 0) (po_some pe_int) po_none) (pa_cons (pv 3) (pa_cons (pv 1) pa_nil)))))
        (pss_cons (ps_if (pt_cmpR op_isN (pv 6) pe_non (nomark _)) (pss_one (ps_ret pe_non)) pss_nil)
        (pss_cons (ps_expr (pe_bm PySem.F.plainAttrs_list PySem.F.slot_list_append PySem.F.type_list_append mt_append (pv 5) (pa_cons pe_str pa_nil)))
        (pss_one (ps_ret (pe_tup (pa_cons pe_str (pa_cons (pv 6) pa_nil)))))))) pss_nil)
      (pss_cons (ps_if (pt_cmpR (op_eqD hr.units) (pv 0) (pe_lst (pa_cons pe_str pa_nil)) (nomark _))
        (pss_cons (ps_if (PW.pt (pw_or (pt_not (pt_truth (pv 5) (by intro _; rfl))) (pw_or1 (pt_cmpR op_eq (pe_bm0 PySem.F.plainAttrs_list PySem.F.slot_list_pop PySem.F.type_list_pop mt_pop (pv 5)) pe_str (nomark _))))) (pss_one (ps_ret pe_non)) pss_nil)
        (pss_cons (ps_expr (pe_bm PySem.F.plainAttrs_list PySem.F.slot_list_append PySem.F.type_list_append mt_append (pv 5) (pa_cons pe_str pa_nil)))
        (pss_one (ps_ret (pe_tup (pa_cons pe_str pa_nil)))))) pss_nil)
      (pss_cons (ps_if (pt_cmpR (op_eqD hr.units) (pv 0) (pe_lst (pa_cons pe_str pa_nil)) (nomark _))
        (pss_cons (ps_if (pt_not (pt_truth (pv 5) (by intro _; rfl))) (pss_one (ps_ret pe_non)) pss_nil)
        (pss_cons (ps_expr (pe_bm0 PySem.F.plainAttrs_list PySem.F.slot_list_pop PySem.F.type_list_pop mt_pop (pv 5)))
        (pss_one (ps_ret (pe_tup (pa_cons pe_str pa_nil)))))) pss_nil)
      (pss_one (ps_ret (pe_callL (i := 2) GS hr4 rfl (Or.inl rfl) kS bS .nil pass0 (pa_cons (pv 0) (pa_cons (pv 1) pa_nil))))))))), ?_⟩
    have at0 := at_pos (ws := ws) (i := 0) (List.length_pos_iff.mpr hne)
    refine and_nest (N := N) (nest := nest) rfl hN hnw (iteF ?_)
    refine and_while (a := a) (ws := ws) rfl rfl ha hne (iteF ?_)
    refine ⟨_, rfl, a, _, 0, _, rfl, rfl, ha, at0, rfl, _, rfl, ?_⟩
    by_cases h1 : ws.getD 0 Str.empty = "if"
    · have hM : readS kd ws nest = (testM (hPartM kd) (ws.drop 1)).map fun t => (.iff t, nest ++ [("if" : Str)]) := if_pos h1
      refine ifT3 (decide_eq_true (congrArg V.str h1)) ?_
      have cl : cutV (ws.map V.str) (some 1) none = (ws.drop 1).map V.str := cut_lo ws 1
      refine ⟨_, rfl, _, rfl, a, _, rfl, ha, fun q nq => ?_⟩
      rw [cl]
      have sq := Same.new (o := .lst ((ws.drop 1).map V.str)) nq
      refine ⟨_, rfl, _, rfl, q, ws.drop 1, kd, rfl, hkd, SqL.of upd_same, (fun w hw => hok w (List.mem_of_mem_drop hw)), by rw [List.length_drop]; omega, fun v G s2 res => ?_⟩
      have sG := sq.trans s2
      refine ⟨_, rfl, rfl, _, rfl, ?_⟩
      cases o : testM (hPartM kd) (ws.drop 1) with
      | none =>
        rw [o] at res hM
        have rv : v = .non := res
        subst rv
        refine iteT ?_
        exact k _ _ nest (But.same sG) (sG _ _ hN) (by rw [hM]; rfl)
      | some t =>
        rw [o] at res hM
        refine ifF3 (decide_eq_false res.1) ?_
        have GN := sG _ _ hN
        refine ⟨_, rfl, .inl ⟨rfl, _, SqL.of GN⟩, N, _, _, rfl, rfl, GN, small1000 (by rw [List.length_map]; omega), ?_⟩
        refine ⟨_, rfl, (by show 2 ≤ sizeLine; decide), fun p np => ?_⟩
        have bw : But N H _ := But.trans (But.same sG) (But.trans (But.upd (p := N) (o := .lst (nest.map V.str ++ [V.str "if"]))) (But.same (Same.new (o := .tup [.str "if", v]) np)))
        refine k _ _ (nest ++ [("if" : Str)]) bw ?_ ?_
        · rw [List.map_append]
          exact Same.new np _ _ upd_same
        · rw [hM]
          exact ⟨rfl, (by intro z; cases z), .tup (SqT.of upd_same) (.cons (.str _) (.cons ((res.2.keep (Tk.write GN)).keep (Same.tk (Same.new np))) .nil))⟩
    refine ifF3 (decide_eq_false fun z => h1 (V.str.inj z)) ?_
    have dW : ∀ G, Same H G → Dp K G (.ref a) (.list (ws.map PyData.str)) := fun G hG => .lst (hG.seq ha) (dpWs _)
    have lW := shapedWs hok
    have lastS : ∀ l, nest.getLast? = some l → (nest.map V.str)[(nest.map V.str).length - 1]? = some (.str l) := fun l e => by
      rw [List.length_map, List.getElem?_map, ← List.getLast?_eq_getElem?, e]
      rfl
    have nemp : ¬ nest = [] → true = !(nest.map V.str).isEmpty := fun z => by
      cases nest with
      | nil => exact absurd rfl z
      | cons x r => rfl
    refine ⟨_, rfl, (by show 1 ≤ sizeLine; decide), fun q nq => ?_⟩
    have sq := Same.new (o := .lst [.str "else"]) nq
    refine ⟨_, .list ([("else" : Str)].map PyData.str), dW _ sq, .lst (SqL.of (xs := [("else" : Str)].map V.str) upd_same) (dpWs _), lW, by decide +kernel, ?_⟩
    rw [eqvL]
    refine ⟨_, rfl, ?_⟩
    by_cases h2 : ws = [("else" : Str)]
    · have hM : readS kd ws nest = if nest = [] ∨ nest.getLast? = some ("else" : Str) then none else some (.els, nest.dropLast ++ [("else" : Str)]) := by
        unfold readS
        rw [if_neg h1, if_pos h2]
      refine ifT3 (decide_eq_true h2) ?_
      have GN := sq _ _ hN
      by_cases hne2 : nest = []
      · refine ⟨_, rfl, false, .inl ⟨_, SqL.of GN, by rw [hne2]; rfl⟩, ?_⟩
        refine iteT ?_
        exact k _ _ nest (But.same sq) GN (by rw [hM, if_pos (.inl hne2)]; rfl)
      refine ⟨_, rfl, true, .inl ⟨_, SqL.of GN, nemp hne2⟩, ?_⟩
      refine iteF ?_
      cases el : nest.getLast? with
      | none => exact absurd (List.getLast?_eq_none_iff.mp el) hne2
      | some l =>
      refine ⟨_, rfl, .inl ⟨rfl, _, SqL.of GN⟩, N, _, _, rfl, rfl, GN, lastS l el, rfl, _, rfl, ?_⟩
      have b1 : But N H _ := But.trans (But.same sq) (But.upd (p := N) (o := .lst (nest.map V.str).dropLast))
      have G2 : (upd (upd H q (.lst [.str "else"])) N (.lst (nest.map V.str).dropLast)) N = some (.lst (nest.dropLast.map V.str)) := by
        rw [upd_same, List.map_dropLast]
      by_cases hl : l = "else"
      · refine ifT3 (decide_eq_true (congrArg V.str hl)) ?_
        exact k _ _ nest.dropLast b1 G2 (by rw [hM, if_pos (.inr (by rw [el, hl]))]; rfl)
      refine ifF3 (decide_eq_false fun z => hl (V.str.inj z)) ?_
      refine ⟨_, rfl, .inl ⟨rfl, _, SqL.of G2⟩, N, _, _, rfl, rfl, G2, small1000 (by rw [List.length_map, List.length_dropLast]; omega), ?_⟩
      refine ⟨(by show 1 ≤ sizeLine; decide), fun p np => ?_⟩
      have bw : But N H _ := But.trans b1 (But.trans (But.upd (p := N) (o := .lst (nest.dropLast.map V.str ++ [V.str "else"]))) (But.same (Same.new (o := .tup [.str "else"]) np)))
      refine k _ _ (nest.dropLast ++ [("else" : Str)]) bw ?_ ?_
      · rw [List.map_append]
        exact Same.new np _ _ upd_same
      · rw [hM, if_neg (fun z => by
          rcases z with z | z
          · exact hne2 z
          · rw [el] at z; exact hl (Option.some.inj z))]
        exact ⟨rfl, (by intro z; cases z), .tup (SqT.of upd_same) (.cons (.str _) .nil)⟩
    refine ifF3 (decide_eq_false h2) ?_
    refine ⟨_, rfl, (by show 1 ≤ sizeLine; decide), fun q2 nq2 => ?_⟩
    have sq2 := sq.trans (Same.new (o := .lst [.str "end"]) nq2)
    refine ⟨_, .list ([("end" : Str)].map PyData.str), dW _ sq2, .lst (SqL.of (xs := [("end" : Str)].map V.str) upd_same) (dpWs _), lW, by decide +kernel, ?_⟩
    rw [eqvL]
    refine ⟨_, rfl, ?_⟩
    by_cases h3 : ws = [("end" : Str)]
    · have hM : readS kd ws nest = if nest = [] then none else some (.nd, nest.dropLast) := by
        unfold readS
        rw [if_neg h1, if_neg h2, if_pos h3]
      refine ifT3 (decide_eq_true h3) ?_
      have GN := sq2 _ _ hN
      by_cases hne2 : nest = []
      · refine ⟨_, rfl, false, .inl ⟨_, SqL.of GN, by rw [hne2]; rfl⟩, ?_⟩
        refine iteT ?_
        exact k _ _ nest (But.same sq2) GN (by rw [hM, if_pos hne2]; rfl)
      refine ⟨_, rfl, true, .inl ⟨_, SqL.of GN, nemp hne2⟩, ?_⟩
      refine iteF ?_
      cases el : nest.getLast? with
      | none => exact absurd (List.getLast?_eq_none_iff.mp el) hne2
      | some l =>
      refine ⟨_, rfl, .inl ⟨rfl, _, SqL.of GN⟩, N, _, _, rfl, rfl, GN, lastS l el, ?_⟩
      refine ⟨(by show 1 ≤ sizeLine; decide), fun p np => ?_⟩
      have bw : But N H _ := But.trans (But.same sq2) (But.trans (But.upd (p := N) (o := .lst (nest.map V.str).dropLast)) (But.same (Same.new (o := .tup [.str "end"]) np)))
      refine k _ _ nest.dropLast bw ?_ ?_
      · rw [List.map_dropLast]
        exact Same.new np _ _ upd_same
      · rw [hM, if_neg hne2]
        exact ⟨rfl, (by intro z; cases z), .tup (SqT.of upd_same) (.cons (.str _) .nil)⟩
    refine ifF3 (decide_eq_false h3) ?_
    have hM : readS kd ws nest = (stepS kd ws).map fun st => (st, nest) := by
      unfold readS
      rw [if_neg h1, if_neg h2, if_neg h3]
    refine ⟨rfl, _, rfl, _, rfl, a, ws, kd, rfl, hkd, sq2.seq ha, hok, hlen, fun v G s3 res => ?_⟩
    rw [step_d] at res
    refine k _ _ nest (But.same (sq2.trans s3)) ((sq2.trans s3) _ _ hN) ?_
    rw [hM]
    cases o : stepS kd ws with
    | none => rw [o] at res; exact res
    | some st => rw [o] at res; exact ⟨rfl, res.1, res.2⟩
end
end K02

set_option Elab.async false
set_option linter.all false
set_option maxRecDepth 100000
set_option maxHeartbeats 8000000
/-! Outlines, d: a text read -/
namespace L2
open PySem PyProof.Rows
/-- a def with defaults that lets nothing out -/
theorem FunD.ok0 {P : Program} {w : World} {K : PySem.W.Frag} {mg : Str → Option Value} {base : Heap} {x qual : Str} {params : Arguments} {body : List Stmt} {scope : Scope} {dvs : List V} {kws : List (Str × V)} {f : Addr} {fd : FuncData} {N ps : List Str} {k : Nat} {sp : Sp}
    (F : FunD K x qual params body scope dvs kws f fd) (S : FnScope N ps scope) (len : ∀ vs H Q E, sp vs H Q E → vs.length = ps.length)
    (hbody : ∀ (cdv : Value) (A : Around) (outer : List Env) (s : Shared) (H : Hp) (vs : List V) (Q : VK) (E : XK), Room k (A.deeper (envOfC qual scope s.heap.objs.size f cdv)) → sp vs H Q E →
      ∃ t, PSs (cxOf CX0 P w K mg base N qual scope f cdv A outer s H E).nox body t ∧ t { nx := fun _ H' => Q .non H', rt := Q } (start N vs) H) : FnOk P w K mg base CX0 (k + 1) f fd ps sp :=
  F.ok S len fun cdv A outer s H vs Q E hr h => by
    obtain ⟨t, p, q⟩ := hbody cdv A outer s H vs Q E hr h
    exact ⟨t, p.nox, q⟩
end L2
namespace K02
open PySem L2
def readGo (kd : Str) : List Str → List St → List Str → Option (List St × List Str)
  | [], acc, nest => some (acc, nest)
  | r :: rs, acc, nest => match readS kd (Txt.split r " ") nest with
    | none => none
    | some (st, n2) => readGo kd rs (acc ++ [st]) n2
def isIf : St → Bool
  | .iff _ => true
  | _ => false
def RowOk (r : Str) : Prop := r.length + 2 ≤ sizeLine ∧ WsOk (Txt.split r " ") ∧ Txt.split r " " ≠ [] ∧ (Txt.split r " ").length ≤ 1000
def spOutl (K : PySem.W.Frag) (C fS fP : Addr) : Sp := fun vs H Q _ => ∃ (x kd : Str) (ml mi : Int) (rows : List Str) (sts : List St) (tg : List V), vs = [.str x, .str kd, .ref fS, .ref fP, .int ml, .int mi, .non] ∧ kd ∈ kindsL ∧ x.length + 2 ≤ sizeLine ∧ linesM x = rows ∧
  (rows.length : Int) ≤ ml ∧ rows.length ≤ 1000 ∧ (∀ r ∈ rows, RowOk r) ∧ readGo kd rows [] [] = some (sts, []) ∧ ((sts.countP isIf : Nat) : Int) ≤ mi ∧ tgM sts = some tg ∧
  ∀ (p : Addr) (xs : List V) (H' : Hp), Same H H' → OutAt K C H' p rows xs sts tg → Q (.ref p) H'
theorem readS_len {kd : Str} {ws nest n2 : List Str} {st : St} (h : readS kd ws nest = some (st, n2)) : n2.length ≤ nest.length + 1 := by
  unfold readS at h
  split at h
  · cases e : testM (hPartM kd) (ws.drop 1) with
    | none => rw [e] at h; cases h
    | some t => rw [e] at h; cases h; rw [List.length_append]; exact Nat.le_refl _
  split at h
  · split at h
    · cases h
    · cases h; rw [List.length_append, List.length_dropLast]; show nest.length - 1 + 1 ≤ _; omega
  split at h
  · split at h
    · cases h
    · cases h; rw [List.length_dropLast]; omega
  · cases e : stepS kd ws with
    | none => rw [e] at h; cases h
    | some s => rw [e] at h; cases h; omega
theorem But.fresh {p : Addr} {H G G' : Hp} (s : Same H G) (b : But p G G') (h : H p = none) : Same H G' := fun a u e => b a u (s a u e) fun z => by
  rw [z, h] at e
  cases e
theorem StsAt.snoc {K : PySem.W.Frag} {H : Hp} {v : V} {st : St} (h : TDp K H v st.d ∧ st.Ok) : ∀ {xs : List V} {sts : List St}, StsAt K H xs sts → StsAt K H (xs ++ [v]) (sts ++ [st])
  | _, _, .nil => .cons h .nil
  | _, _, .cons a r => .cons a (StsAt.snoc h r)
theorem isIf_sort {st : St} (h : st.Ok) : decide (V.str st.sort = V.str "if") = isIf st := by
  cases st with
  | fin x =>
    rcases h with e | e
    · subst e
      show decide (V.str ("quit" : Str) = V.str "if") = false
      decide +kernel
    · subst e
      show decide (V.str ("no" : Str) = V.str "if") = false
      decide +kernel
  | set n sm sg c =>
    show decide (V.str ("set" : Str) = V.str "if") = false
    decide +kernel
  | iff t => exact decide_eq_true rfl
  | els =>
    show decide (V.str ("else" : Str) = V.str "if") = false
    decide +kernel
  | nd =>
    show decide (V.str ("end" : Str) = V.str "if") = false
    decide +kernel
theorem none_of {H G : Hp} {a : Addr} (s : Same H G) (h : G a = none) : H a = none := by
  cases e : H a with
  | none => rfl
  | some o => exact absurd (s _ _ e) (by rw [h]; intro z; cases z)
section
variable {P : Program} {w : World} {K : PySem.W.Frag} {mg : Str → Option Value} {base : Heap}
abbrev nmOutl : List Str := ["text", "kind", "step_in", "part_in", "most_lines", "most_ifs", "loop_in", "rows", "steps", "nest", "row", "step", "many_ifs"]
theorem scOutl : FnScope nmOutl ["text", "kind", "step_in", "part_in", "most_lines", "most_ifs", "loop_in"] (defScope sOutl) := ⟨rfl, rfl, rfl, by decide +kernel, rfl, by decide +kernel, by decide +kernel⟩
theorem ok_outl {f fL fR fS fP C fI : Addr} {fd fdL fdR fdI : FuncData} (F : FunD K "read_outline" "read_outline" (defArgs sOutl) (defBody sOutl) (defScope sOutl) [.non] [] f fd) (T : TxtN mg) (O : TxtO K mg C)
    (GL : FnOk P w K mg base CX0 1 fL fdL ["text"] spLines) (kL : PySem.W.keepIn K (.ref fL) = true) (bL : Binds K fdL ["text"] []) (gL : mg "lines_of" = some (.ref fL))
    (GR : FnOk P w K mg base CX0 6 fR fdR ["words", "kind", "step_in", "part_in", "loop_in", "nest"] (spRead K fS fP)) (kR : PySem.W.keepIn K (.ref fR) = true) (bR : Binds K fdR ["words", "kind", "step_in", "part_in", "loop_in", "nest"] []) (gR : mg "read_line" = some (.ref fR))
    (M : Mk K C fI) (GI : FnOk P w K mg base CX0 2 fI fdI ["self", "rows", "steps"] (spOI K C)) (bI : Binds K fdI ["self", "rows", "steps"] []) :
    FnOk P w K mg base CX0 7 f fd ["text", "kind", "step_in", "part_in", "most_lines", "most_ifs", "loop_in"] (spOutl K C fS fP) := by
  refine F.ok0 scOutl (fun vs H Q E h => ?_) (fun cdv A outer s H vs Q E hr h => ?_)
  · obtain ⟨x, kd, ml, mi, rows, sts, tg, rfl, _⟩ := h
    rfl
  · obtain ⟨x, kd, ml, mi, rows, sts, tg, rfl, hkd, hx, hrows, hml, hn, hok, hgo0, hmi, htg, k⟩ := h
    have hr1 : Room 1 _ := hr.mono (by decide)
    have hr3 : Room 3 _ := hr.mono (by decide)
    have hr6 : Room 6 _ := hr.mono (by decide)
    refine ⟨_, pss_cons (ps_set (i := 7) scOutl.nd rfl (.inl rfl) (pe_call GL hr1 rfl gL kL bL .nil pass0 (pa_cons (pv 0) pa_nil)))
      (pss_cons (ps_if (pt_cmpR op_gt (pe_callB call_len_seq (by rfl) T.len PySem.boot_len (pa_cons (pv 7) pa_nil)) (pv 4) (nomark _)) (pss_one PS.ghost) pss_nil)
      (pss_cons (ps_set (i := 8) scOutl.nd rfl (.inl rfl) (pe_lst pa_nil))
      (pss_cons (ps_set (i := 9) scOutl.nd rfl (.inl rfl) (pe_lst pa_nil))
      (pss_cons (ps_for PassesOwn.never rfl (pi_list (pv 7)) (pg_name (i := 10) scOutl.nd rfl (Or.inl rfl))
        (pss_cons (ps_set (i := 11) scOutl.nd rfl (.inl rfl) (pe_call GR hr6 rfl gR kR bR .nil pass0 (pa_cons (pe_split (pv 10) pe_str) (pa_cons (pv 1) (pa_cons (pv 2) (pa_cons (pv 3) (pa_cons (pv 6) (pa_cons (pv 9) pa_nil))))))))
        (pss_cons (ps_if (pt_cmpR op_isN (pv 11) pe_non (nomark _)) (pss_one PS.ghost) pss_nil)
        (pss_one (ps_expr (pe_bm PySem.F.plainAttrs_list PySem.F.slot_list_append PySem.F.type_list_append mt_append (pv 8) (pa_cons (pv 11) pa_nil)))))))
      (pss_cons (ps_if (pt_truth (pv 9) (by intro _; rfl)) (pss_one PS.ghost) pss_nil)
      (pss_cons (ps_set (i := 12) scOutl.nd rfl (.inl rfl) (pe_callB call_len_seq (by rfl) T.len PySem.boot_len (pa_cons
        (pe_lc (own := [("step", 11)]) (g := gName 11) rfl scOutl.nd (pi_list (pv 8)) (blkOk_by (own := [("step", 11)]) (N := nmOutl) (sc := defScope sOutl) (by decide +kernel)) (fun _ _ _ _ _ => pg_name (i := 11) scOutl.nd rfl (Or.inl rfl)) (fun _ _ _ _ _ => pts_one (pt_cmpR op_eq (pe_ix (show IxR _ (rIxT K) from ix_tup) (pv 11) pe_int (fun _ _ => rfl)) pe_str (nomark _))) (fun _ _ _ _ _ => pv 11)) pa_nil)))
      (pss_cons (ps_if (pt_cmpR op_gt (pv 12) (pv 5) (nomark _)) (pss_one PS.ghost) pss_nil)
      (pss_one (ps_ret (pe_make M GI hr3 (by rfl) O.mgC bI .nil pass0 (pa_cons (pv 7) (pa_cons (pv 8) pa_nil)))))))))))), ?_⟩
    refine ⟨_, rfl, x, rfl, hx, fun R0 H1 s1 hR => ?_⟩
    rw [hrows] at hR
    refine ⟨_, rfl, R0, _, rfl, .inl (SqL.of hR), _, rfl, _, _, rfl, rfl, _, rfl, ?_⟩
    refine ifF3 (decide_eq_false (by rw [List.length_map]; omega)) ?_
    refine ⟨(by show 0 ≤ sizeLine; decide), fun S0 nS => ?_⟩
    have s2 := s1.trans (Same.new (o := .lst []) nS)
    refine ⟨(by show 0 ≤ sizeLine; decide), fun N0 nN => ?_⟩
    have s3 := s2.trans (Same.new (o := .lst []) nN)
    have HS : H S0 = none := none_of s1 nS
    have HN : H N0 = none := none_of s2 nN
    have SN : S0 ≠ N0 := ne_of_none upd_same nN
    have RS : R0 ≠ S0 := ne_of_none hR nS
    have hR3 : (upd (upd H1 S0 (.lst [])) N0 (.lst [])) R0 = some (.lst (rows.map V.str)) := Same.new nN _ _ (Same.new nS _ _ hR)
    have RN : R0 ≠ N0 := ne_of_none (Same.new nS _ _ hR) nN
    refine ⟨_, rfl, R0, rfl, ⟨_, SqL.of hR3⟩, for_list (K := K) (a := R0) (xs := rows.map V.str) (fun i σ G => ∃ acc nest ys v9 v10, σ = [some (.str x), some (.str kd), some (.ref fS), some (.ref fP), some (.int ml), some (.int mi), some .non, some (.ref R0), some (.ref S0), some (.ref N0), v9, v10, none] ∧
      Same H G ∧ G R0 = some (.lst (rows.map V.str)) ∧ G S0 = some (.lst ys) ∧ G N0 = some (.lst (nest.map V.str)) ∧ StsAt K G ys acc ∧ acc.length = i ∧ nest.length ≤ i ∧ NoWh nest ∧ readGo kd (rows.drop i) acc nest = some (sts, []))
      ⟨[], [], [], none, none, rfl, s3, hR3, by rw [upd_ne SN]; exact upd_same, upd_same, .nil, rfl, Nat.le_refl _, NoWh.nil, hgo0⟩ (fun i σ G _ ⟨_, _, _, _, _, _, _, e, _⟩ => SqL.of e) ?_ ?_⟩
    · rintro i y σ G hi ⟨acc, nest, ys, v9, v10, rfl, hG, gR', gS, gN, hst, hacc, hnl, hnw, hgo⟩
      obtain ⟨r, hri, rfl⟩ : ∃ r, rows[i]? = some r ∧ y = V.str r := by
        rw [List.getElem?_map] at hi
        cases e : rows[i]? with
        | none => rw [e] at hi; cases hi
        | some x => rw [e] at hi; exact ⟨x, rfl, (Option.some.inj hi).symm⟩
      obtain ⟨q1, q2, q3, q4⟩ := hok r (List.mem_of_getElem? hri)
      have hil : i < rows.length := (List.getElem?_eq_some_iff.mp hri).1
      rw [drop_cons hri] at hgo
      have hyl : ys.length = i := by rw [← hacc]; exact Paired.length hst
      refine ⟨_, rfl, ⟨_, rfl⟩, r, _, rfl, rfl, rfl, q1, fun a na => ?_⟩
      have sa := Same.new (o := .lst ((Txt.split r " ").map V.str)) na
      refine ⟨_, rfl, _, rfl, _, rfl, _, rfl, _, rfl, a, N0, Txt.split r " ", nest, kd, rfl, hnw, hkd, SqL.of upd_same, q2, q3, q4, sa _ _ gN, by omega, fun v G2 nest' b2 g2 res => ?_⟩
      have bG : But N0 G G2 := But.trans (But.same sa) b2
      have hG2 : Same H G2 := But.fresh hG bG HN
      have gR2 := bG _ _ gR' RN
      have gS2 := bG _ _ gS SN
      refine ⟨_, rfl, rfl, _, rfl, ?_⟩
      cases o : readS kd (Txt.split r " ") nest with
      | none =>
        have hgo2 : (match readS kd (Txt.split r " ") nest with
          | none => none
          | some (st, n2) => readGo kd (rows.drop (i + 1)) (acc ++ [st]) n2) = some (sts, []) := hgo
        rw [o] at hgo2
        cases hgo2
      | some pr =>
      obtain ⟨st, n2⟩ := pr
      have hgo2 : (match readS kd (Txt.split r " ") nest with
          | none => none
          | some (st, n2) => readGo kd (rows.drop (i + 1)) (acc ++ [st]) n2) = some (sts, []) := hgo
      rw [o] at hgo2 res
      obtain ⟨e1, e2, e3⟩ := res
      subst e1
      refine ifF3 (decide_eq_false e2) ?_
      refine ⟨_, rfl, .inl ⟨rfl, _, SqL.of gS2⟩, _, rfl, S0, _, _, rfl, rfl, gS2, small1000 (by omega), ?_⟩
      refine ⟨acc ++ [st], nest', ys ++ [v], _, _, rfl, Same.write hG2 HS, by rw [upd_ne RS]; exact gR2, upd_same, by rw [upd_ne SN.symm]; exact g2, ?_, by rw [List.length_append, hacc]; rfl, ?_, read_noWh o hnw, hgo2⟩
      · exact StsAt.snoc ⟨e3.keep (Tk.write gS2), read_ok o⟩ ((hst.keep (bG.tk gN)).keep (Tk.write gS2))
      · have := readS_len o
        omega
    · rintro σ G ⟨acc, nest, ys, v9, v10, rfl, hG, gR', gS, gN, hst, hacc, hnl, hnw, hgo⟩
      rw [List.drop_of_length_le (by rw [List.length_map]; exact Nat.le_refl _)] at hgo
      have e : (acc, nest) = (sts, []) := Option.some.inj hgo
      cases e
      have hyl : ys.length = sts.length := Paired.length hst
      have hsl : sts.length = rows.length := by rw [hacc, List.length_map]
      refine ⟨_, rfl, false, .inl ⟨_, SqL.of gN, rfl⟩, ?_⟩
      refine iteF ?_
      refine ⟨_, rfl, S0, rfl, ⟨_, SqL.of gS⟩, fun D nD => ?_⟩
      have sD := Same.new (o := .lst []) nD
      refine lc_list (K := K) (a := S0) (xs := ys) (fun i G2 => ∃ zs, Same G G2 ∧ G2 D = some (.lst zs) ∧ zs.length = (sts.take i).countP isIf) ⟨[], sD, upd_same, rfl⟩ (fun i G2 _ ⟨_, e, _⟩ => SqL.of (e _ _ gS)) ?_ ?_
      · rintro i y G2 hi ⟨zs, s4, hD, hz⟩
        obtain ⟨st, est, hv, hk⟩ := Paired.get hst hi
        obtain ⟨b, rest, rfl, hb⟩ := St.head (hv.keep (Same.tk s4))
        have ht : (sts.take (i + 1)).countP isIf = (sts.take i).countP isIf + (if isIf st = true then 1 else 0) := by
          rw [take_more est, List.countP_append, List.countP_singleton]
        have hle : (sts.take i).countP isIf ≤ 1000 := Nat.le_trans List.countP_le_length (by rw [List.length_take]; omega)
        refine ⟨rfl, ?_⟩
        refine ⟨_, rfl, b, _, 0, _, rfl, rfl, hb, atI_nat (j := 0) rfl, rfl, _, rfl, ?_⟩
        rw [isIf_sort hk]
        cases hif : isIf st with
        | true =>
          rw [hif, if_pos rfl] at ht
          refine iteT ?_
          refine ⟨_, rfl, zs, hD, small1000 (by omega), zs ++ [.ref b], ?_, upd_same, by rw [ht, List.length_append, hz]; rfl⟩
          exact Same.write s4 nD
        | false =>
          rw [hif, if_neg Bool.false_ne_true] at ht
          refine iteF ?_
          exact ⟨zs, s4, hD, by rw [ht, hz]; rfl⟩
      · rintro G2 ⟨zs, s4, hD, hz⟩
        rw [hyl, List.take_length] at hz
        refine ⟨D, _, rfl, .inl (SqL.of hD), ?_⟩
        refine ⟨_, rfl, _, rfl, _, _, rfl, rfl, _, rfl, ?_⟩
        refine ifF3 (decide_eq_false (by omega)) ?_
        refine ⟨_, rfl, _, rfl, fun p dx np ndx ne => ?_⟩
        have s5 := (hG.trans s4).trans ((Same.new (o := .own p) ndx).trans (Same.new (o := .ins C dx []) (by rw [upd_ne ne.symm]; exact np)))
        have s6 := s4.trans ((Same.new (o := .own p) ndx).trans (Same.new (o := .ins C dx []) (by rw [upd_ne ne.symm]; exact np)))
        refine ⟨p, dx, R0, S0, rows, ys, sts, tg, rfl, upd_same, SqL.of (s6 _ _ gR'), SqL.of (s6 _ _ gS), hst.keep (Same.tk s6), by omega, htg, fun G3 b3 hO => ⟨rfl, ?_⟩⟩
        exact k p ys G3 (But.fresh s5 b3 (none_of (hG.trans s4) np)) hO
end
end K02

set_option Elab.async false
set_option linter.all false
set_option maxRecDepth 100000
set_option maxHeartbeats 8000000
/-! Outlines, e: the ways -/
namespace K02
open PySem L2
def enders : List Str := ["quit", "no", "tell", "none"]
structure TxtW (K : PySem.W.Frag) (mg : Str → Option Value) : Prop where
  en : ∃ c, mg "ENDERS" = some (.ref c) ∧ ∀ H, SqT K H c (enders.map V.str)
/-- R l: what comes behind the place l (from 0 on) on each way, the numbers of the lines -/
structure RunEq (sts : List St) (tg : List V) (R : Nat → List (List Nat)) : Prop where
  out : ∀ l, sts.length ≤ l → R l = [[]]
  els : ∀ l, sts[l]? = some .els → ∃ t : Nat, tg[l]? = some (.int ((t + 1 : Nat) : Int)) ∧ l < t ∧ t ≤ sts.length ∧ R l = R t
  fin : ∀ l x, sts[l]? = some (.fin x) → R l = [[l + 1]]
  nd : ∀ l, sts[l]? = some .nd → R l = R (l + 1)
  set : ∀ l n sm sg k, sts[l]? = some (.set n sm sg k) → R l = (R (l + 1)).map ((l + 1) :: ·)
  iff : ∀ l c, sts[l]? = some (.iff c) → ∃ t : Nat, tg[l]? = some (.int ((t + 1 : Nat) : Int)) ∧ l < t ∧ t ≤ sts.length ∧ R l = (R (l + 1)).map ((l + 1) :: ·) ++ (R t).map ((l + 1) :: ·)
def intsV (w : List Nat) : List V := w.map fun n => .int (n : Nat)
/-- what waits: the pair's place, the list's place, the place of the line, the way so far -/
structure Wt where
  t : Addr
  a : Addr
  l : Nat
  w : List Nat
def WtAt (G : Hp) (e : Wt) : Prop := G e.t = some (.tup [.int ((e.l + 1 : Nat) : Int), .ref e.a]) ∧ G e.a = some (.lst (intsV e.w))
def WaysAt (G : Hp) : List Addr → List (List Nat) → Prop := Paired fun a w => G a = some (.lst (intsV w))
def spWays (K : PySem.W.Frag) (C : Addr) : Sp := fun vs H Q _ => ∃ (p : Addr) (rows : List Str) (xs : List V) (sts : List St) (tg : List V) (R : Nat → List (List Nat)), vs = [.ref p] ∧ OutAt K C H p rows xs sts tg ∧ sts.length ≤ 900 ∧ RunEq sts tg R ∧ (R 0).length ≤ 900 ∧
  ∀ (W : Addr) (as : List Addr) (ws : List (List Nat)) (H' : Hp), Same H H' → H' W = some (.lst (as.map V.ref)) → WaysAt H' as ws → (∀ w, w ∈ ws ↔ w ∈ R 0) → ws.length = (R 0).length → Q (.ref W) H'
/-- the state between two lines of ways_through -/
structure WS (H G : Hp) (W0 Q0 : Addr) (n : Nat) (as : List Addr) (ws : List (List Nat)) (es : List Wt) (cur : List Addr) : Prop where
  same : Same H G
  gW : G W0 = some (.lst (as.map V.ref))
  gQ : G Q0 = some (.lst (es.map fun e => V.ref e.t))
  wa : WaysAt G as ws
  ent : ∀ e ∈ es, WtAt G e ∧ e.l ≤ n ∧ e.w.length ≤ e.l
  nd : (cur ++ (as ++ es.map (·.a))).Nodup
  fr : ∀ b ∈ cur ++ (as ++ es.map (·.a)), b ≠ W0 ∧ b ≠ Q0 ∧ H b = none
  hW : H W0 = none
  hQ : H Q0 = none
  WQ : W0 ≠ Q0
theorem WaysAt.keep {G G' : Hp} : ∀ {as : List Addr} {ws : List (List Nat)}, (∀ a ∈ as, ∀ o, G a = some o → G' a = some o) → WaysAt G as ws → WaysAt G' as ws
  | _, _, _, .nil => .nil
  | _, _, h, .cons e r => .cons (h _ (List.mem_cons_self ..) _ e) (WaysAt.keep (fun a ha => h a (List.mem_cons_of_mem _ ha)) r)
theorem WaysAt.snoc {G : Hp} {a : Addr} {w : List Nat} (h : G a = some (.lst (intsV w))) : ∀ {as : List Addr} {ws : List (List Nat)}, WaysAt G as ws → WaysAt G (as ++ [a]) (ws ++ [w])
  | _, _, .nil => .cons h .nil
  | _, _, .cons e r => .cons e (WaysAt.snoc h r)
section
variable {H G : Hp} {W0 Q0 : Addr} {n : Nat} {as : List Addr} {ws : List (List Nat)} {es : List Wt} {cur : List Addr}
theorem WS.new (S : WS H G W0 Q0 n as ws es cur) {G' : Hp} (s : Same G G') : WS H G' W0 Q0 n as ws es cur :=
  ⟨S.same.trans s, s _ _ S.gW, s _ _ S.gQ, S.wa.keep fun a _ o e => s a o e, fun e he => ⟨⟨s _ _ (S.ent e he).1.1, s _ _ (S.ent e he).1.2⟩, (S.ent e he).2⟩, S.nd, S.fr, S.hW, S.hQ, S.WQ⟩
theorem WS.pop {e : Wt} (S : WS H G W0 Q0 n as ws (es ++ [e]) []) : WS H (upd G Q0 (.lst (es.map fun e => V.ref e.t))) W0 Q0 n as ws es [e.a] ∧ (upd G Q0 (.lst (es.map fun e => V.ref e.t))) e.a = some (.lst (intsV e.w)) ∧
    (upd G Q0 (.lst (es.map fun e => V.ref e.t))) e.t = some (.tup [.int ((e.l + 1 : Nat) : Int), .ref e.a]) ∧ e.l ≤ n ∧ e.w.length ≤ e.l := by
  obtain ⟨⟨h1, h2⟩, h3, h4⟩ := S.ent e (by simp)
  have f : ∀ b ∈ as ++ es.map (·.a), b ≠ W0 ∧ b ≠ Q0 ∧ H b = none := fun b hb => S.fr b (by
    rw [List.nil_append, List.map_append]
    rcases List.mem_append.mp hb with z | z
    · exact List.mem_append_left _ z
    · exact List.mem_append_right _ (List.mem_append_left _ z))
  have fe : e.a ≠ W0 ∧ e.a ≠ Q0 ∧ H e.a = none := S.fr e.a (by simp)
  have nt : e.t ≠ Q0 := ne_of h1 S.gQ (by intro z; cases z)
  refine ⟨⟨Same.write S.same S.hQ, by rw [upd_ne S.WQ]; exact S.gW, upd_same, S.wa.keep fun a ha o h => by rw [upd_ne (f a (List.mem_append_left _ ha)).2.1]; exact h, fun x hx => ?_, ?_, ?_, S.hW, S.hQ, S.WQ⟩, by rw [upd_ne fe.2.1]; exact h2, by rw [upd_ne nt]; exact h1, h3, h4⟩
  · obtain ⟨⟨k1, k2⟩, k3⟩ := S.ent x (List.mem_append_left _ hx)
    refine ⟨⟨?_, ?_⟩, k3⟩
    · rw [upd_ne (ne_of k1 S.gQ (by intro z; cases z))]
      exact k1
    · rw [upd_ne (f x.a (List.mem_append_right _ (List.mem_map.mpr ⟨x, hx, rfl⟩))).2.1]
      exact k2
  · have nd := S.nd
    rw [List.nil_append, List.map_append, ← List.append_assoc] at nd
    have nd2 := List.nodup_append.mp nd
    rw [List.singleton_append, List.nodup_cons]
    exact ⟨fun z => nd2.2.2 _ z _ (by simp) rfl, nd2.1⟩
  · intro b hb
    rcases List.mem_append.mp hb with z | z
    · rw [List.mem_singleton.mp z]
      exact fe
    · exact f b z
theorem WS.grow {a : Addr} {w : List Nat} {o : HO} (S : WS H G W0 Q0 n as ws es [a]) (ga : G a = some (.lst (intsV w))) : WS H (upd G a o) W0 Q0 n as ws es [a] := by
  have fa := S.fr a (by simp)
  have nd := S.nd
  rw [List.singleton_append, List.nodup_cons] at nd
  refine ⟨Same.write S.same fa.2.2, by rw [upd_ne fa.1.symm]; exact S.gW, by rw [upd_ne fa.2.1.symm]; exact S.gQ, S.wa.keep fun b hb o h => by rw [upd_ne (fun z => nd.1 (by rw [← z]; exact List.mem_append_left _ hb))]; exact h, fun x hx => ?_, S.nd, S.fr, S.hW, S.hQ, S.WQ⟩
  obtain ⟨⟨k1, k2⟩, k3⟩ := S.ent x hx
  refine ⟨⟨?_, ?_⟩, k3⟩
  · rw [upd_ne (ne_of k1 ga (by intro z; cases z))]
    exact k1
  · rw [upd_ne (fun z => nd.1 (by rw [← z]; exact List.mem_append_right _ (List.mem_map.mpr ⟨x, hx, rfl⟩)))]
    exact k2
theorem WS.push {a : Addr} {e : Wt} (S : WS H G W0 Q0 n as ws es [a]) (he : WtAt G e) (h1 : e.l ≤ n) (h2 : e.w.length ≤ e.l) (hf : e.a ∉ a :: (as ++ es.map (·.a))) (hn : e.a ≠ W0 ∧ e.a ≠ Q0 ∧ H e.a = none) :
    WS H (upd G Q0 (.lst (es.map (fun e => V.ref e.t) ++ [.ref e.t]))) W0 Q0 n as ws (es ++ [e]) [a] := by
  have f : ∀ b ∈ as ++ es.map (·.a), b ≠ W0 ∧ b ≠ Q0 ∧ H b = none := fun b hb => S.fr b (List.mem_append_right _ hb)
  refine ⟨Same.write S.same S.hQ, by rw [upd_ne S.WQ]; exact S.gW, by rw [List.map_append]; exact upd_same, S.wa.keep fun b hb o h => by rw [upd_ne (f b (List.mem_append_left _ hb)).2.1]; exact h, fun x hx => ?_, ?_, ?_, S.hW, S.hQ, S.WQ⟩
  · rcases List.mem_append.mp hx with z | z
    · obtain ⟨⟨k1, k2⟩, k3⟩ := S.ent x z
      refine ⟨⟨?_, ?_⟩, k3⟩
      · rw [upd_ne (ne_of k1 S.gQ (by intro z; cases z))]
        exact k1
      · rw [upd_ne (f x.a (List.mem_append_right _ (List.mem_map.mpr ⟨x, z, rfl⟩))).2.1]
        exact k2
    · rw [List.mem_singleton.mp z]
      refine ⟨⟨?_, ?_⟩, h1, h2⟩
      · rw [upd_ne (ne_of he.1 S.gQ (by intro z; cases z))]
        exact he.1
      · rw [upd_ne hn.2.1]
        exact he.2
  · have nd := S.nd
    rw [List.map_append, ← List.append_assoc as, ← List.append_assoc [a]]
    refine List.nodup_append.mpr ⟨nd, by simp, fun x hx y hy z => ?_⟩
    rw [z, List.mem_singleton.mp hy] at hx
    exact hf hx
  · intro b hb
    rw [List.map_append, ← List.append_assoc as, ← List.append_assoc [a]] at hb
    rcases List.mem_append.mp hb with z | z
    · exact S.fr b z
    · rw [List.mem_singleton.mp z]
      exact hn
theorem WS.tell {a : Addr} {w : List Nat} (S : WS H G W0 Q0 n as ws es [a]) (ga : G a = some (.lst (intsV w))) : WS H (upd G W0 (.lst (as.map V.ref ++ [.ref a]))) W0 Q0 n (as ++ [a]) (ws ++ [w]) es [] := by
  have fa := S.fr a (by simp)
  have f : ∀ b ∈ as ++ es.map (·.a), b ≠ W0 ∧ b ≠ Q0 ∧ H b = none := fun b hb => S.fr b (List.mem_append_right _ hb)
  refine ⟨Same.write S.same S.hW, by rw [List.map_append]; exact upd_same, by rw [upd_ne S.WQ.symm]; exact S.gQ, WaysAt.snoc (by rw [upd_ne fa.1]; exact ga) (S.wa.keep fun b hb o h => by rw [upd_ne (f b (List.mem_append_left _ hb)).1]; exact h), fun x hx => ?_, ?_, ?_, S.hW, S.hQ, S.WQ⟩
  · obtain ⟨⟨k1, k2⟩, k3⟩ := S.ent x hx
    refine ⟨⟨?_, ?_⟩, k3⟩
    · rw [upd_ne (ne_of k1 S.gW (by intro z; cases z))]
      exact k1
    · rw [upd_ne (f x.a (List.mem_append_right _ (List.mem_map.mpr ⟨x, hx, rfl⟩))).1]
      exact k2
  · have nd := S.nd
    rw [List.singleton_append, List.nodup_cons] at nd
    have nd2 := List.nodup_append.mp nd.2
    rw [List.nil_append, List.append_assoc]
    refine List.nodup_append.mpr ⟨nd2.1, ?_, fun x hx y hy z => ?_⟩
    · rw [List.singleton_append, List.nodup_cons]
      exact ⟨fun z => nd.1 (List.mem_append_right _ z), nd2.2.1⟩
    · rw [List.singleton_append] at hy
      rcases List.mem_cons.mp hy with e | e
      · rw [z, e] at hx
        exact nd.1 (List.mem_append_left _ hx)
      · exact nd2.2.2 x hx y e z
  · intro b hb
    rw [List.nil_append, List.append_assoc] at hb
    rcases List.mem_append.mp hb with z | z
    · exact f b (List.mem_append_left _ z)
    · rw [List.singleton_append] at z
      rcases List.mem_cons.mp z with e | e
      · rw [e]
        exact fa
      · exact f b (List.mem_append_right _ e)
end
def wSum (R : Nat → List (List Nat)) (es : List Wt) : Nat := (es.map fun e => (R e.l).length).sum
/-- the ways told, those that wait, those of the one under way -/
structure WM (R : Nat → List (List Nat)) (ws : List (List Nat)) (es : List Wt) (cur : List (List Nat)) : Prop where
  set : ∀ r, (r ∈ ws ∨ (∃ e ∈ es, ∃ q ∈ R e.l, r = e.w ++ q) ∨ r ∈ cur) ↔ r ∈ R 0
  cnt : ws.length + wSum R es + cur.length = (R 0).length
section
variable {R : Nat → List (List Nat)} {ws : List (List Nat)} {es : List Wt} {cur : List (List Nat)}
theorem wSum_snoc (e : Wt) : wSum R (es ++ [e]) = wSum R es + (R e.l).length := by
  unfold wSum
  rw [List.map_append, List.sum_append]
  rfl
theorem WM.pop {e : Wt} (M : WM R ws (es ++ [e]) []) : WM R ws es ((R e.l).map (e.w ++ ·)) := by
  refine ⟨fun r => ?_, ?_⟩
  · rw [← M.set r]
    constructor
    · rintro (h | ⟨x, hx, q, hq, e⟩ | h)
      · exact .inl h
      · exact .inr (.inl ⟨x, List.mem_append_left _ hx, q, hq, e⟩)
      · obtain ⟨q, hq, e⟩ := List.mem_map.mp h
        exact .inr (.inl ⟨_, List.mem_append_right _ (List.mem_singleton.mpr rfl), q, hq, e.symm⟩)
    · rintro (h | ⟨x, hx, q, hq, e⟩ | h)
      · exact .inl h
      · rcases List.mem_append.mp hx with z | z
        · exact .inr (.inl ⟨x, z, q, hq, e⟩)
        · rw [List.mem_singleton.mp z] at hq e
          exact .inr (.inr (List.mem_map.mpr ⟨q, hq, e.symm⟩))
      · cases h
  · have c := M.cnt
    rw [wSum_snoc] at c
    rw [List.length_map]
    have z : ([] : List (List Nat)).length = 0 := rfl
    omega
theorem WM.tell {wf : List Nat} (M : WM R ws es [wf]) : WM R (ws ++ [wf]) es [] := by
  refine ⟨fun r => ?_, ?_⟩
  · rw [← M.set r]
    constructor
    · rintro (h | h | h)
      · rcases List.mem_append.mp h with z | z
        · exact .inl z
        · exact .inr (.inr z)
      · exact .inr (.inl h)
      · cases h
    · rintro (h | h | h)
      · exact .inl (List.mem_append_left _ h)
      · exact .inr (.inl h)
      · exact .inl (List.mem_append_right _ h)
  · have c := M.cnt
    rw [List.length_append]
    have z : ([] : List (List Nat)).length = 0 := rfl
    have z1 : [wf].length = 1 := rfl
    omega
theorem WM.push {A : List (List Nat)} {e : Wt} (M : WM R ws es (A ++ (R e.l).map (e.w ++ ·))) : WM R ws (es ++ [e]) A := by
  refine ⟨fun r => ?_, ?_⟩
  · rw [← M.set r]
    constructor
    · rintro (h | ⟨x, hx, q, hq, e⟩ | h)
      · exact .inl h
      · rcases List.mem_append.mp hx with z | z
        · exact .inr (.inl ⟨x, z, q, hq, e⟩)
        · rw [List.mem_singleton.mp z] at hq e
          exact .inr (.inr (List.mem_append_right _ (List.mem_map.mpr ⟨q, hq, e.symm⟩)))
      · exact .inr (.inr (List.mem_append_left _ h))
    · rintro (h | ⟨x, hx, q, hq, e⟩ | h)
      · exact .inl h
      · exact .inr (.inl ⟨x, List.mem_append_left _ hx, q, hq, e⟩)
      · rcases List.mem_append.mp h with z | z
        · exact .inr (.inr z)
        · obtain ⟨q, hq, e⟩ := List.mem_map.mp z
          exact .inr (.inl ⟨_, List.mem_append_right _ (List.mem_singleton.mpr rfl), q, hq, e.symm⟩)
  · have c := M.cnt
    rw [List.length_append, List.length_map] at c
    rw [wSum_snoc]
    omega
end
theorem RunEq.pos {sts : List St} {tg : List V} {R : Nat → List (List Nat)} (h : RunEq sts tg R) (hok : ∀ l, l < sts.length → ∃ st, sts[l]? = some st) : ∀ (m l : Nat), sts.length - l ≤ m → l ≤ sts.length → 0 < (R l).length
  | m, l, hm, hl => by
    by_cases e : l < sts.length
    case neg =>
      rw [h.out l (by omega)]
      decide
    obtain ⟨st, hs⟩ := hok l e
    cases m with
    | zero => omega
    | succ m =>
    cases st with
    | fin x => rw [h.fin l x hs]; exact Nat.zero_lt_one
    | nd => rw [h.nd l hs]; exact RunEq.pos h hok m (l + 1) (by omega) (by omega)
    | set n sm sg k => rw [h.set l _ _ _ _ hs, List.length_map]; exact RunEq.pos h hok m (l + 1) (by omega) (by omega)
    | els =>
      obtain ⟨t, _, h1, h2, h3⟩ := h.els l hs
      rw [h3]
      exact RunEq.pos h hok m t (by omega) h2
    | iff c =>
      obtain ⟨t, _, h1, h2, h3⟩ := h.iff l c hs
      rw [h3, List.length_append, List.length_map]
      have := RunEq.pos h hok m (l + 1) (by omega) (by omega)
      omega
theorem len_sum {R : Nat → List (List Nat)} : ∀ {es : List Wt}, (∀ e ∈ es, 0 < (R e.l).length) → es.length ≤ wSum R es
  | [], _ => Nat.le_refl _
  | e :: es, h => by
    have a := h e (List.mem_cons_self ..)
    have b := len_sum (es := es) fun x hx => h x (List.mem_cons_of_mem _ hx)
    have c : wSum R (e :: es) = (R e.l).length + wSum R es := by
      unfold wSum
      rw [List.map_cons, List.sum_cons]
    rw [c, List.length_cons]
    omega
theorem WM.lenE {sts : List St} {tg : List V} {R : Nat → List (List Nat)} {ws : List (List Nat)} {es : List Wt} {cur : List (List Nat)} (h : RunEq sts tg R) (hl : (R 0).length ≤ 900) (M : WM R ws es cur) (he : ∀ e ∈ es, e.l ≤ sts.length) : es.length ≤ 900 := by
  have a := len_sum (R := R) (es := es) fun e hx => RunEq.pos h (fun l hl => ⟨_, List.getElem?_eq_getElem hl⟩) _ e.l (Nat.le_refl _) (he e hx)
  have b := M.cnt
  omega
theorem WaysAt.there {G : Hp} {a : Addr} : ∀ {as : List Addr} {ws : List (List Nat)}, WaysAt G as ws → a ∈ as → ∃ o, G a = some o
  | _, _, .nil, z => nomatch z
  | _, _, .cons h t, z => by
    rcases List.mem_cons.mp z with e | e
    · exact ⟨_, by rw [e]; exact h⟩
    · exact WaysAt.there t e
theorem map_cons_app (w : List Nat) (x : Nat) (A : List (List Nat)) : (A.map (x :: ·)).map (w ++ ·) = A.map ((w ++ [x]) ++ ·) := by
  rw [List.map_map]
  refine List.map_congr_left fun q _ => ?_
  show w ++ x :: q = (w ++ [x]) ++ q
  rw [List.append_assoc]
  rfl
def wBody : Stmt → List Stmt
  | .While _ b _ _ => b
  | _ => []
def passS : Stmt := .Pass ⟨0, 0, 0, 0⟩
section
variable {P : Program} {w : World} {K : PySem.W.Frag} {mg : Str → Option Value} {base : Heap}
abbrev nmWays : List Str := ["outline", "ways", "waiting", "line", "way", "sort"]
theorem scWays : FnScope nmWays ["outline"] (defScope sWays) := ⟨rfl, rfl, rfl, by decide +kernel, rfl, by decide +kernel, by decide +kernel⟩
theorem ok_ways {f C fM fS fT : Addr} {fd fdM fdS fdT : FuncData} (F : Fun K "ways_through" "ways_through" sWays f fd) (T : TxtN mg) (O : TxtO K mg C) (U : TxtW K mg)
    (GM : FnOk P w K mg base CX0 1 fM fdM ["self"] (spMany K C)) (mM : Meth K C "many_lines" fM) (bM : Binds K fdM ["self"] [])
    (GS : FnOk P w K mg base CX0 1 fS fdS ["self", "line"] (spStepAt K C)) (mS : Meth K C "step_at" fS) (bS : Binds K fdS ["self", "line"] [])
    (GT : FnOk P w K mg base CX0 1 fT fdT ["self", "line"] (spTargetAt K C)) (mT : Meth K C "target_at" fT) (bT : Binds K fdT ["self", "line"] []) :
    FnOk P w K mg base CX0 2 f fd ["outline"] (spWays K C) := by
  obtain ⟨ce, hce, hCE⟩ := U.en
  refine F.ok scWays (fun vs H Q E h => ?_) (fun cdv A outer s H vs Q E hr h => ?_)
  · obtain ⟨p, rows, xs, sts, tg, R, rfl, _⟩ := h
    rfl
  · obtain ⟨p, rows, xs, sts, tg, R, rfl, hO, hn, hR, hRl, k⟩ := h
    have hr1 : Room 1 _ := hr.mono (by decide)
    have hxl : xs.length = sts.length := Paired.length hO.st
    -- ways.append(way)
    obtain ⟨tA, pA, rA⟩ : ∃ tA, PSs (cxOf CX0 P w K mg base nmWays "ways_through" (defScope sWays) f cdv A outer s H E).nox ((wBody ((defBody sWays).getD 2 passS)).drop 2) tA ∧
        ∀ (D : Ends) (G : Hp) (W0 Q0 a : Addr) (as : List Addr) (ws : List (List Nat)) (es : List Wt) (wf : List Nat) (v3 v5 : Option V), WS H G W0 Q0 sts.length as ws es [a] → G a = some (.lst (intsV wf)) → WM R ws es [wf] →
          (∀ G', WS H G' W0 Q0 sts.length (as ++ [a]) (ws ++ [wf]) es [] → WM R (ws ++ [wf]) es [] → D.nx [some (.ref p), some (.ref W0), some (.ref Q0), v3, some (.ref a), v5] G') → tA D [some (.ref p), some (.ref W0), some (.ref Q0), v3, some (.ref a), v5] G := by
      refine ⟨_, pss_one (ps_expr (pe_bm PySem.F.plainAttrs_list PySem.F.slot_list_append PySem.F.type_list_append mt_append (pv 1) (pa_cons (pv 4) pa_nil))), ?_⟩
      intro D G W0 Q0 a as ws es wf v3 v5 S ga M hd
      have hc := M.cnt
      have hal : as.length = ws.length := Paired.length S.wa
      refine ⟨_, rfl, .inl ⟨rfl, _, SqL.of S.gW⟩, _, rfl, W0, _, _, rfl, rfl, S.gW, small1000 (by rw [List.length_map]; omega), ?_⟩
      exact hd _ (S.tell ga) M.tell
    -- the inner loop
    obtain ⟨tB, pB, rB⟩ : ∃ tB, PSs (cxOf CX0 P w K mg base nmWays "ways_through" (defScope sWays) f cdv A outer s H E).nox ((wBody ((defBody sWays).getD 2 passS)).drop 1) tB ∧
        ∀ (D : Ends) (G : Hp) (W0 Q0 a : Addr) (as : List Addr) (ws : List (List Nat)) (es : List Wt) (l : Nat) (wy : List Nat) (v5 : Option V), WS H G W0 Q0 sts.length as ws es [a] → G a = some (.lst (intsV wy)) → l ≤ sts.length → wy.length ≤ l → WM R ws es ((R l).map (wy ++ ·)) →
          (∀ es wf v3 v5 G', WS H G' W0 Q0 sts.length (as ++ [a]) (ws ++ [wf]) es [] → WM R (ws ++ [wf]) es [] → D.nx [some (.ref p), some (.ref W0), some (.ref Q0), v3, some (.ref a), v5] G') → tB D [some (.ref p), some (.ref W0), some (.ref Q0), some (.int ((l + 1 : Nat) : Int)), some (.ref a), v5] G := by
      refine ⟨_, pss_cons (ps_while PassesOwn.never (pt_cmpR op_le (pv 3) (pe_meth0 (pv 0) O.cl mM GM hr1 bM .nil pass0) (nomark _))
          (pss_cons (ps_set (i := 5) scWays.nd rfl (.inl rfl) (pe_ix ix_tup (pe_meth (pv 0) O.cl mS GS hr1 bS .nil pass0 (pa_cons (pv 3) pa_nil)) pe_int (fun _ _ => rfl)))
          (pss_cons (ps_if (pt_cmpR op_eq (pv 5) pe_str (nomark _))
            (pss_cons (ps_set (i := 3) scWays.nd rfl (.inl rfl) (pe_meth (pv 0) O.cl mT GT hr1 bT .nil pass0 (pa_cons (pv 3) pa_nil)))
            (pss_one ps_continue)) pss_nil)
          (pss_cons (ps_if (pt_cmpR op_ne (pv 5) pe_str (nomark _))
            (pss_one (ps_expr (pe_bm PySem.F.plainAttrs_list PySem.F.slot_list_append PySem.F.type_list_append mt_append (pv 4) (pa_cons (pv 3) pa_nil)))) pss_nil)
          (pss_cons (ps_if (pt_cmpR op_in_seq (pv 5) (pe_glob (v := .ref ce) (by rfl) hce rfl) (by rfl)) (pss_one ps_break) pss_nil)
          (pss_cons (ps_if (pt_cmpR op_eq (pv 5) pe_str (nomark _))
            (pss_one (ps_expr (pe_bm PySem.F.plainAttrs_list PySem.F.slot_list_append PySem.F.type_list_append mt_append (pv 2) (pa_cons (pe_tup (pa_cons (pe_meth (pv 0) O.cl mT GT hr1 bT .nil pass0 (pa_cons (pv 3) pa_nil)) (pa_cons (pe_callTy call_list_of (by rfl) T.list (by decide +kernel) (pa_cons (pv 4) pa_nil)) pa_nil))) pa_nil)))) pss_nil)
          (pss_one (ps_aug (i := 3) scWays.nd rfl (.inl rfl) pe_int ip_add)))))))) pA, ?_⟩
      intro D G W0 Q0 a as ws es l wy v5 S ga hl hwl M hd
      refine ⟨fun m σ G => ∃ (es : List Wt) (l : Nat) (wy : List Nat) (v5 : Option V), σ = [some (.ref p), some (.ref W0), some (.ref Q0), some (.int ((l + 1 : Nat) : Int)), some (.ref a), v5] ∧ WS H G W0 Q0 sts.length as ws es [a] ∧ G a = some (.lst (intsV wy)) ∧ l ≤ sts.length ∧ wy.length ≤ l ∧ WM R ws es ((R l).map (wy ++ ·)) ∧ m = sts.length + 1 - l,
        ⟨_, es, l, wy, v5, rfl, S, ga, hl, hwl, M, rfl⟩, ?_⟩
      rintro m σ G ⟨es, l, wy, v5, rfl, S, ga, hl, hwl, M, rfl⟩
      have hOG := hO.keep S.same
      obtain ⟨⟨dx, r1, r2, r3, eO, _, _, _⟩, _⟩ := id hOG
      have no1 : (oFl r1 r2 r3).lookup ("many_lines" : Str) = none := oFl_no _ _ _ (by decide +kernel) (by decide +kernel) (by decide +kernel)
      have no2 : (oFl r1 r2 r3).lookup ("step_at" : Str) = none := oFl_no _ _ _ (by decide +kernel) (by decide +kernel) (by decide +kernel)
      refine ⟨_, rfl, _, rfl, p, dx, _, rfl, eO, no1, p, rows, xs, sts, tg, rfl, hOG, _, _, rfl, rfl, _, rfl, ?_⟩
      by_cases hln : l < sts.length
      case neg =>
        have e : l = sts.length := by omega
        subst e
        rw [hR.out _ (Nat.le_refl _), List.map_singleton, List.append_nil] at M
        refine ifF3 (decide_eq_false (by omega)) ?_
        exact rA _ _ _ _ _ _ _ _ _ _ _ S ga M (hd _ _ _ _)
      refine ifT3 (decide_eq_true (by omega)) ?_
      refine ⟨fun σ' G' => ∃ m', m' < sts.length + 1 - l ∧ ∃ (es : List Wt) (l : Nat) (wy : List Nat) (v5 : Option V), σ' = [some (.ref p), some (.ref W0), some (.ref Q0), some (.int ((l + 1 : Nat) : Int)), some (.ref a), v5] ∧ WS H G' W0 Q0 sts.length as ws es [a] ∧ G' a = some (.lst (intsV wy)) ∧ l ≤ sts.length ∧ wy.length ≤ l ∧ WM R ws es ((R l).map (wy ++ ·)) ∧ m' = sts.length + 1 - l,
        fun σ' G' z => z, ?_⟩
      obtain ⟨v, hv⟩ : ∃ v, xs[l]? = some v := ⟨_, List.getElem?_eq_getElem (by omega)⟩
      obtain ⟨st, est, hvt, hok⟩ := Paired.get hOG.st hv
      obtain ⟨b, rest, rfl, hb⟩ := St.head hvt
      refine ⟨_, rfl, p, dx, _, rfl, eO, no2, _, rfl, p, rows, xs, sts, tg, l, _, rfl, hOG, hv, b, _, 0, _, rfl, rfl, hb, atI_nat (j := 0) rfl, ?_⟩
      refine ⟨_, rfl, rfl, _, rfl, ?_⟩
      have e2 : ∀ x y : Str, ¬ x = y → (decide (V.str x = V.str y)) = false := fun x y h => decide_eq_false fun z => h (V.str.inj z)
      have no3 : (oFl r1 r2 r3).lookup ("target_at" : Str) = none := oFl_no _ _ _ (by decide +kernel) (by decide +kernel) (by decide +kernel)
      have addW : intsV wy ++ [V.int ((l + 1 : Nat) : Int)] = intsV (wy ++ [l + 1]) := by
        unfold intsV
        rw [List.map_append]
        rfl
      have gaW : (upd G a (.lst (intsV wy ++ [V.int ((l + 1 : Nat) : Int)]))) a = some (.lst (intsV (wy ++ [l + 1]))) := by
        rw [addW]
        exact upd_same
      have SW := S.grow (o := .lst (intsV wy ++ [V.int ((l + 1 : Nat) : Int)])) ga
      have lenW : (wy ++ [l + 1]).length ≤ l + 1 := by
        rw [List.length_append]
        show wy.length + 1 ≤ l + 1
        omega
      have smW : (intsV wy).length < sizeLine := small1000 (by unfold intsV; rw [List.length_map]; omega)
      cases st with
      | els =>
        obtain ⟨t, ht, h1, h2, h3⟩ := hR.els l est
        refine ifT3 (decide_eq_true rfl) ?_
        refine ⟨_, rfl, p, dx, _, rfl, eO, no3, _, rfl, p, rows, xs, sts, tg, l, _, rfl, hOG, ht, ?_⟩
        exact ⟨sts.length + 1 - t, by omega, es, t, wy, _, rfl, S, ga, h2, by omega, by rw [← h3]; exact M, rfl⟩
      | nd =>
        have z1 : ¬ ("end" : Str) = "else" := by decide +kernel
        have z2 : ¬ ("end" : Str) = "if" := by decide +kernel
        have z3 : ¬ ("end" : Str) ∈ enders := by decide +kernel
        refine ifF3 (e2 _ _ z1) ?_
        refine ⟨_, rfl, rfl, _, rfl, ?_⟩
        refine ifF3 (by rw [decide_eq_true (show V.str St.nd.sort = V.str "end" from rfl)]; rfl) ?_
        refine ⟨_, rfl, ce, _, rfl, .inr (hCE _), rfl, flat_str enders, ?_⟩
        rw [if_neg Bool.false_ne_true, inV_str]
        refine ⟨_, rfl, ?_⟩
        refine ifF3 (decide_eq_false z3) ?_
        refine ⟨_, rfl, rfl, _, rfl, ?_⟩
        refine ifF3 (e2 _ _ z2) ?_
        refine ⟨_, rfl, _, _, rfl, rfl, ?_⟩
        exact ⟨sts.length + 1 - (l + 1), by omega, es, l + 1, wy, _, rfl, S, ga, hln, by omega, by rw [← hR.nd l est]; exact M, rfl⟩
      | set n sm sg c =>
        have z1 : ¬ ("set" : Str) = "else" := by decide +kernel
        have z2 : ¬ ("set" : Str) = "if" := by decide +kernel
        have z3 : ¬ ("set" : Str) ∈ enders := by decide +kernel
        have z4 : ¬ ("set" : Str) = "end" := by decide +kernel
        refine ifF3 (e2 _ _ z1) ?_
        refine ⟨_, rfl, rfl, _, rfl, ?_⟩
        refine ifT3 (show (!decide (V.str ("set" : Str) = V.str "end")) = true by rw [e2 _ _ z4]; rfl) ?_
        refine ⟨_, rfl, .inl ⟨rfl, _, SqL.of ga⟩, _, rfl, a, _, _, rfl, rfl, ga, smW, ?_⟩
        refine ⟨_, rfl, ce, _, rfl, .inr (hCE _), rfl, flat_str enders, ?_⟩
        rw [if_neg Bool.false_ne_true, inV_str]
        refine ⟨_, rfl, ?_⟩
        refine ifF3 (decide_eq_false z3) ?_
        refine ⟨_, rfl, rfl, _, rfl, ?_⟩
        refine ifF3 (e2 _ _ z2) ?_
        refine ⟨_, rfl, _, _, rfl, rfl, ?_⟩
        exact ⟨sts.length + 1 - (l + 1), by omega, es, l + 1, wy ++ [l + 1], _, rfl, SW, gaW, hln, lenW, by rw [hR.set l _ _ _ _ est, map_cons_app] at M; exact M, rfl⟩
      | fin x =>
        have hx : x ∈ enders ∧ ¬ x = "else" ∧ ¬ x = "end" := by
          rcases hok with e | e
          · rw [e]; exact ⟨by decide +kernel, by decide +kernel, by decide +kernel⟩
          · rw [e]; exact ⟨by decide +kernel, by decide +kernel, by decide +kernel⟩
        refine ifF3 (e2 _ _ hx.2.1) ?_
        refine ⟨_, rfl, rfl, _, rfl, ?_⟩
        refine ifT3 (show (!decide (V.str x = V.str "end")) = true by rw [e2 _ _ hx.2.2]; rfl) ?_
        refine ⟨_, rfl, .inl ⟨rfl, _, SqL.of ga⟩, _, rfl, a, _, _, rfl, rfl, ga, smW, ?_⟩
        refine ⟨_, rfl, ce, _, rfl, .inr (hCE _), rfl, flat_str enders, ?_⟩
        rw [if_neg Bool.false_ne_true, inV_str]
        refine ⟨_, rfl, ?_⟩
        refine ifT3 (decide_eq_true hx.1) ?_
        rw [hR.fin l x est, List.map_singleton] at M
        exact rA _ _ _ _ _ _ _ _ _ _ _ SW gaW M (hd _ _ _ _)
      | iff c =>
        obtain ⟨t, ht, h1, h2, h3⟩ := hR.iff l c est
        have z1 : ¬ ("if" : Str) = "else" := by decide +kernel
        have z3 : ¬ ("if" : Str) ∈ enders := by decide +kernel
        have z4 : ¬ ("if" : Str) = "end" := by decide +kernel
        refine ifF3 (e2 _ _ z1) ?_
        refine ⟨_, rfl, rfl, _, rfl, ?_⟩
        refine ifT3 (show (!decide (V.str ("if" : Str) = V.str "end")) = true by rw [e2 _ _ z4]; rfl) ?_
        refine ⟨_, rfl, .inl ⟨rfl, _, SqL.of ga⟩, _, rfl, a, _, _, rfl, rfl, ga, smW, ?_⟩
        refine ⟨_, rfl, ce, _, rfl, .inr (hCE _), rfl, flat_str enders, ?_⟩
        rw [if_neg Bool.false_ne_true, inV_str]
        refine ⟨_, rfl, ?_⟩
        refine ifF3 (decide_eq_false z3) ?_
        refine ⟨_, rfl, rfl, _, rfl, ?_⟩
        refine ifT3 (decide_eq_true rfl) ?_
        have hOW := hO.keep SW.same
        obtain ⟨⟨dx', q1, q2, q3, eO', _, _, _⟩, _⟩ := id hOW
        have no4 : (oFl q1 q2 q3).lookup ("target_at" : Str) = none := oFl_no _ _ _ (by decide +kernel) (by decide +kernel) (by decide +kernel)
        refine ⟨_, rfl, .inl ⟨rfl, _, SqL.of SW.gQ⟩, _, rfl, p, dx', _, rfl, eO', no4, _, rfl, p, rows, xs, sts, tg, l, _, rfl, hOW, ht, _, rfl, a, _, rfl, .inl (SqL.of gaW), fun b2 nb => ⟨(by show 2 ≤ sizeLine; decide), fun t0 nt0 => ?_⟩⟩
        have sb := (Same.new (o := .lst (intsV (wy ++ [l + 1]))) nb)
        have st0 := (Same.new (o := .tup [.int ((t + 1 : Nat) : Int), .ref b2]) nt0)
        have S2 := (SW.new sb).new st0
        have hb2 : ∀ y, y ∈ a :: (as ++ es.map (·.a)) → ¬ b2 = y := fun y hy z => by
          rcases List.mem_cons.mp hy with e | e
          · exact ne_of_none gaW nb (e.symm.trans z.symm)
          · rcases List.mem_append.mp e with e | e
            · obtain ⟨o, ho⟩ : ∃ o, (upd G a (.lst (intsV wy ++ [V.int ((l + 1 : Nat) : Int)]))) y = some o := WaysAt.there SW.wa e
              rw [← z, nb] at ho
              cases ho
            · obtain ⟨x, hx, hxa⟩ := List.mem_map.mp e
              have := (SW.ent x hx).1.2
              rw [hxa, ← z, nb] at this
              cases this
        have hn2 : b2 ≠ W0 ∧ b2 ≠ Q0 ∧ H b2 = none := ⟨(ne_of_none SW.gW nb).symm, (ne_of_none SW.gQ nb).symm, none_of SW.same nb⟩
        refine ⟨Q0, _, _, rfl, rfl, S2.gQ, ?_, ?_⟩
        · rw [List.length_map]
          have hc := M.cnt
          have hle : es.length ≤ 900 := WM.lenE hR hRl M (fun e he => (S.ent e he).2.1)
          exact small1000 (by omega)
        refine ⟨_, rfl, _, _, rfl, rfl, ?_⟩
        have PS := S2.push (e := ⟨t0, b2, t, wy ++ [l + 1]⟩) ⟨upd_same, st0 _ _ upd_same⟩ h2 (by show (wy ++ [l + 1]).length ≤ t; omega) (fun z => hb2 _ z rfl) hn2
        refine ⟨sts.length + 1 - (l + 1), by omega, es ++ [⟨t0, b2, t, wy ++ [l + 1]⟩], l + 1, wy ++ [l + 1], _, rfl, PS, ?_, hln, lenW, ?_, rfl⟩
        · have fa := SW.fr a (by simp)
          rw [upd_ne fa.2.1]
          exact st0 _ _ (sb _ _ gaW)
        · rw [h3, List.map_append, map_cons_app, map_cons_app] at M
          exact WM.push (e := ⟨t0, b2, t, wy ++ [l + 1]⟩) M
    refine ⟨_, pss_cons (ps_set (i := 1) scWays.nd rfl (.inl rfl) (pe_lst pa_nil))
      (pss_cons (ps_set (i := 2) scWays.nd rfl (.inl rfl) (pe_lst (pa_cons (pe_tup (pa_cons pe_int (pa_cons (pe_lst pa_nil) pa_nil))) pa_nil)))
      (pss_cons (ps_while PassesOwn.never (pt_truth (pv 2) (by intro _; rfl))
        (pss_cons (ps_asg (pe_bm0 PySem.F.plainAttrs_list PySem.F.slot_list_pop PySem.F.type_list_pop mt_pop (pv 2)) (pg_tup rfl (pgs_cons (pg_name (i := 3) scWays.nd rfl (.inl rfl)) (pgs_cons (pg_name (i := 4) scWays.nd rfl (.inl rfl)) pgs_nil)))) pB))
      (pss_one (ps_ret (pv 1))))), ?_⟩
    refine ⟨(by show 0 ≤ sizeLine; decide), fun W0 nW => ?_⟩
    have s1 := Same.new (o := .lst []) nW
    refine ⟨(by show 0 ≤ sizeLine; decide), fun a0 na => ⟨(by show 2 ≤ sizeLine; decide), fun t0 nt => ⟨(by show 1 ≤ sizeLine; decide), fun Q0 nQ => ?_⟩⟩⟩
    have s2 := Same.new (o := .lst []) na
    have s3 := Same.new (o := .tup [.int 1, .ref a0]) nt
    have s4 := Same.new (o := .lst [.ref t0]) nQ
    have gW1 : (upd H W0 (.lst [])) W0 = some (.lst []) := upd_same
    have ga1 := s3 _ _ (upd_same (H := upd H W0 (.lst [])) (a := a0) (o := .lst []))
    have HW : H W0 = none := nW
    have Ha : H a0 = none := none_of s1 na
    have HQ : H Q0 = none := none_of (s1.trans (s2.trans s3)) nQ
    have S0 : WS H (upd (upd (upd (upd H W0 (.lst [])) a0 (.lst [])) t0 (.tup [.int 1, .ref a0])) Q0 (.lst [.ref t0])) W0 Q0 sts.length [] [] [⟨t0, a0, 0, []⟩] [] := by
      refine ⟨s1.trans (s2.trans (s3.trans s4)), s4 _ _ (s3 _ _ (s2 _ _ gW1)), upd_same, .nil, fun e he => ?_, by simp, fun b hb => ?_, HW, HQ, ne_of_none (s3 _ _ (s2 _ _ gW1)) nQ⟩
      · rw [List.mem_singleton.mp he]
        exact ⟨⟨s4 _ _ upd_same, s4 _ _ ga1⟩, Nat.zero_le _, Nat.le_refl _⟩
      · have e : b = a0 := by simpa using hb
        rw [e]
        exact ⟨(ne_of_none gW1 na).symm, ne_of_none ga1 nQ, Ha⟩
    have M0 : WM R [] [⟨t0, a0, 0, []⟩] [] := by
      refine ⟨fun r => ?_, ?_⟩
      · constructor
        · rintro (h | ⟨e, he, q, hq, z⟩ | h)
          · cases h
          · rw [List.mem_singleton.mp he] at hq z
            rw [z]
            exact hq
          · cases h
        · intro h
          exact .inr (.inl ⟨_, List.mem_singleton.mpr rfl, r, h, rfl⟩)
      · show 0 + ((R 0).length + 0) + 0 = (R 0).length
        omega
    refine ⟨fun m σ G => ∃ (as : List Addr) (ws : List (List Nat)) (es : List Wt) (v3 v4 v5 : Option V), σ = [some (.ref p), some (.ref W0), some (.ref Q0), v3, v4, v5] ∧ WS H G W0 Q0 sts.length as ws es [] ∧ WM R ws es [] ∧ m = wSum R es,
      ⟨_, [], [], _, none, none, none, rfl, S0, M0, rfl⟩, ?_⟩
    rintro m σ G ⟨as, ws, es, v3, v4, v5, rfl, S, M, rfl⟩
    rcases List.eq_nil_or_concat es with e | ⟨es', e, he⟩
    · subst e
      refine ⟨_, rfl, false, .inl ⟨_, SqL.of S.gQ, rfl⟩, ?_⟩
      refine iteF ?_
      refine ⟨_, rfl, ?_⟩
      refine k W0 as ws G S.same S.gW S.wa (fun r => ?_) ?_
      · rw [← M.set r]
        constructor
        · intro h
          exact .inl h
        · rintro (h | ⟨e, he, _⟩ | h)
          · exact h
          · cases he
          · cases h
      · have c := M.cnt
        have z : wSum R [] = 0 := rfl
        have z2 : ([] : List (List Nat)).length = 0 := rfl
        omega
    rw [List.concat_eq_append] at he
    subst he
    refine ⟨_, rfl, true, .inl ⟨_, SqL.of S.gQ, ?_⟩, ?_⟩
    · rw [List.map_append]
      cases es' <;> rfl
    refine iteT ?_
    refine ⟨fun σ' G' => ∃ m', m' < wSum R (es' ++ [e]) ∧ ∃ (as : List Addr) (ws : List (List Nat)) (es : List Wt) (v3 v4 v5 : Option V), σ' = [some (.ref p), some (.ref W0), some (.ref Q0), v3, v4, v5] ∧ WS H G' W0 Q0 sts.length as ws es [] ∧ WM R ws es [] ∧ m' = wSum R es, fun σ' G' z => z, ?_⟩
    obtain ⟨SP, g1, g2, g3, g4⟩ := S.pop
    have hdl : ((es' ++ [e]).map fun e => V.ref e.t).dropLast = es'.map fun e => V.ref e.t := by
      rw [List.map_append]
      exact List.dropLast_concat
    have hlast : ((es' ++ [e]).map fun e => V.ref e.t)[((es' ++ [e]).map fun e => V.ref e.t).length - 1]? = some (.ref e.t) := by
      rw [← List.getLast?_eq_getElem?, List.map_append]
      exact List.getLast?_concat
    refine ⟨_, rfl, .inl ⟨rfl, _, SqL.of S.gQ⟩, Q0, _, _, rfl, rfl, S.gQ, hlast, ?_⟩
    rw [hdl]
    refine ⟨e.t, _, rfl, SqT.of g2, rfl, _, _, rfl, _, _, rfl, rfl, ?_⟩
    refine rB _ _ _ _ _ _ _ _ _ _ _ SP g1 g3 g4 M.pop fun es2 wf v3 v5 G' S' M' => ?_
    refine ⟨wSum R es2, ?_, as ++ [e.a], ws ++ [wf], es2, _, _, _, rfl, S', M', rfl⟩
    have c1 := M.cnt
    have c2 := M'.cnt
    rw [List.length_append] at c2
    have z1 : [wf].length = 1 := rfl
    have z2 : ([] : List (List Nat)).length = 0 := rfl
    omega
end
end K02

set_option Elab.async false
set_option linter.all false
set_option maxRecDepth 100000
set_option maxHeartbeats 8000000
/-! Outlines, f: the first line above a limit -/
namespace K02
open PySem L2
/-- lines and marks in their row; the first line with a mark that stands once too often -/
def aboveGo (lim : Str → Nat) : List (Nat × Str) → List Str → Option Nat
  | [], _ => none
  | (n, m) :: r, seen => if lim m < seen.count m + 1 then some n else aboveGo lim r (seen ++ [m])
def lineMarks (sts : List St) (n : Nat) : List (Nat × Str) := ((sts.getD (n - 1) .nd).marks).map fun m => (n, m)
def wayMarks (sts : List St) (wy : List Nat) : List (Nat × Str) := wy.flatMap (lineMarks sts)
def optN : Option Nat → V
  | none => .non
  | some n => .int (n : Nat)
def spAbove (K : PySem.W.Frag) (C fM : Addr) : Sp := fun vs H Q _ => ∃ (p aw D : Addr) (rows : List Str) (xs : List V) (sts : List St) (tg : List V) (wy : List Nat) (kvs : List (Key × V)) (lim : Str → Nat), vs = [.ref p, .ref aw, .ref fM, .ref D] ∧ OutAt K C H p rows xs sts tg ∧ H aw = some (.lst (intsV wy)) ∧
  (∀ n ∈ wy, 1 ≤ n ∧ n ≤ sts.length) ∧ wy.length ≤ 900 ∧ H D = some (.dK kvs) ∧ (∀ n ∈ wy, ∀ m ∈ (sts.getD (n - 1) .nd).marks, valV kvs (Sum.inr m) = some (.int (lim m : Nat))) ∧ ∀ H', Same H H' → Q (optN (aboveGo lim (wayMarks sts wy) [])) H'
theorem above_more (lim : Str → Nat) : ∀ (a b : List (Nat × Str)) (seen : List Str), aboveGo lim a seen = none → aboveGo lim (a ++ b) seen = aboveGo lim b (seen ++ a.map (·.2))
  | [], b, seen, _ => by rw [List.nil_append, List.map_nil, List.append_nil]
  | (n, m) :: a, b, seen, h => by
    have h' : (if lim m < seen.count m + 1 then some n else aboveGo lim a (seen ++ [m])) = none := h
    show (if lim m < seen.count m + 1 then some n else aboveGo lim (a ++ b) (seen ++ [m])) = _
    by_cases e : lim m < seen.count m + 1
    · rw [if_pos e] at h'
      cases h'
    · rw [if_neg e] at h' ⊢
      rw [above_more lim a b _ h', List.map_cons, List.append_assoc]
      rfl
theorem above_hit (lim : Str → Nat) {n : Nat} : ∀ (a b : List (Nat × Str)) (seen : List Str), aboveGo lim a seen = some n → aboveGo lim (a ++ b) seen = some n
  | [], b, seen, h => by cases h
  | (k, m) :: a, b, seen, h => by
    have h' : (if lim m < seen.count m + 1 then some k else aboveGo lim a (seen ++ [m])) = some n := h
    show (if lim m < seen.count m + 1 then some k else aboveGo lim (a ++ b) (seen ++ [m])) = _
    by_cases e : lim m < seen.count m + 1
    · rw [if_pos e] at h' ⊢
      exact h'
    · rw [if_neg e] at h' ⊢
      exact above_hit lim a b _ h'
/-- the counts stand in a dict -/
def Cnts (kvs : List (Key × V)) (seen : List Str) : Prop := (∀ m : Str, valV kvs (Sum.inr m) = if seen.count m = 0 then none else some (.int (seen.count m : Nat))) ∧ kvs.length ≤ seen.length
theorem putK_len (c : List (Key × V)) (k : Key) (x : V) : (putK c k x).length ≤ c.length + 1 := by
  unfold putK
  split
  · rw [List.length_map]
    omega
  · rw [List.length_append]
    exact Nat.le_refl _
theorem Cnts.put {kvs : List (Key × V)} {seen : List Str} (h : Cnts kvs seen) (m : Str) : Cnts (putK kvs (Sum.inr m) (.int ((seen.count m : Nat) + 1 : Int))) (seen ++ [m]) := by
  refine ⟨fun k => ?_, ?_⟩
  · rw [valV_put, List.count_append]
    by_cases e : k = m
    · subst e
      rw [if_pos rfl, List.count_singleton_self, if_neg (by omega)]
      rfl
    · rw [if_neg (fun z => e (Sum.inr.inj z)), h.1 k]
      have z : [m].count k = 0 := by
        rw [List.count_singleton]
        rw [if_neg (by simpa using fun z => e z.symm)]
      rw [z, Nat.add_zero]
  · have := putK_len kvs (Sum.inr m : Key) (.int ((seen.count m : Nat) + 1 : Int))
    have := h.2
    rw [List.length_append]
    show _ ≤ seen.length + 1
    omega
theorem marks_len (st : St) : st.marks.length ≤ 2 := by
  cases st with
  | set n sm sg k =>
    cases sg with
    | none => exact Nat.le_succ 1
    | some x => exact Nat.le_refl 2
  | fin x => exact Nat.zero_le 2
  | iff c => exact Nat.zero_le 2
  | els => exact Nat.zero_le 2
  | nd => exact Nat.zero_le 2
theorem wayMarks_len (sts : List St) : ∀ wy : List Nat, (wayMarks sts wy).length ≤ 2 * wy.length
  | [] => Nat.le_refl _
  | n :: wy => by
    have h : wayMarks sts (n :: wy) = lineMarks sts n ++ wayMarks sts wy := List.flatMap_cons
    rw [h, List.length_append, List.length_cons]
    have := wayMarks_len sts wy
    have e : (lineMarks sts n).length = ((sts.getD (n - 1) .nd).marks).length := List.length_map _
    have := marks_len (sts.getD (n - 1) .nd)
    omega
section
variable {P : Program} {w : World} {K : PySem.W.Frag} {mg : Str → Option Value} {base : Heap}
abbrev nmAbove : List Str := ["outline", "way", "marks_of", "most", "many", "line", "mark"]
theorem scAbove : FnScope nmAbove ["outline", "way", "marks_of", "most"] (defScope sAbove) := ⟨rfl, rfl, rfl, by decide +kernel, rfl, by decide +kernel, by decide +kernel⟩
theorem ok_above {f C fM fS : Addr} {fd fdM fdS : FuncData} (F : Fun K "line_above" "line_above" sAbove f fd) (T : TxtN mg) (O : TxtO K mg C)
    (GS : FnOk P w K mg base CX0 1 fS fdS ["self", "line"] (spStepAt K C)) (mS : Meth K C "step_at" fS) (bS : Binds K fdS ["self", "line"] [])
    (GM : FnOk P w K mg base CX0 1 fM fdM ["step"] (spMarks K)) (kM : PySem.W.keepIn K (.ref fM) = true) (bM : Binds K fdM ["step"] []) :
    FnOk P w K mg base CX0 2 f fd ["outline", "way", "marks_of", "most"] (spAbove K C fM) := by
  refine F.ok scAbove (fun vs H Q E h => ?_) (fun cdv A outer s H vs Q E hr h => ?_)
  · obtain ⟨p, aw, D, rows, xs, sts, tg, wy, kvs, lim, rfl, _⟩ := h
    rfl
  · obtain ⟨p, aw, D, rows, xs, sts, tg, wy, kvs, lim, rfl, hO, haw, hwy, hwl, hD, hlim, k⟩ := h
    have hr1 : Room 1 _ := hr.mono (by decide)
    have hu := hu_of hr
    refine ⟨_, pss_cons (ps_set (i := 4) scAbove.nd rfl (.inl rfl) pe_dnewK)
      (pss_cons (ps_for PassesOwn.never rfl (pi_list (pv 1)) (pg_name (i := 5) scAbove.nd rfl (Or.inl rfl))
        (pss_one (ps_for PassesOwn.never rfl (pi_list (pe_callL (i := 2) GM hr1 rfl (Or.inl rfl) kM bM .nil pass0 (pa_cons (pe_meth (pv 0) O.cl mS GS hr1 bS .nil pass0 (pa_cons (pv 5) pa_nil)) pa_nil))) (pg_name (i := 6) scAbove.nd rfl (Or.inl rfl))
          (pss_cons (ps_dput hu (pv 4) (pv 6) (pe_op op_add (pe_dget2 hu (pv 4) (pv 6) pe_int ⟨rfl, rfl, rfl, rfl⟩) pe_int) rfl)
          (pss_one (ps_if (pt_cmpR op_gt (pe_dget hu (pv 4) (pv 6) (fun _ _ => rfl)) (pe_dget hu (pv 3) (pv 6) (fun _ _ => rfl)) (nomark _)) (pss_one (ps_ret (pv 5))) pss_nil))))))
      (pss_one (ps_ret pe_non))), ?_⟩
    intro M0 nM
    have s1 := Same.new (o := .dK []) nM
    have HM : H M0 = none := nM
    refine ⟨_, rfl, aw, rfl, ⟨_, SqL.of (s1 _ _ haw)⟩, for_list (K := K) (a := aw) (xs := intsV wy) (fun i σ G => ∃ kvs2 v5 v6, σ = [some (.ref p), some (.ref aw), some (.ref fM), some (.ref D), some (.ref M0), v5, v6] ∧ Same H G ∧ G M0 = some (.dK kvs2) ∧
      Cnts kvs2 ((wayMarks sts (wy.take i)).map (·.2)) ∧ aboveGo lim (wayMarks sts (wy.take i)) [] = none)
      ⟨[], none, none, rfl, s1, upd_same, ⟨fun m => rfl, Nat.le_refl _⟩, rfl⟩ (fun i σ G _ ⟨_, _, _, _, e, _⟩ => SqL.of (e _ _ haw)) ?_ ?_⟩
    · rintro i y σ G hi ⟨kvs2, v5, v6, rfl, hG, gM, hC, hA⟩
      obtain ⟨n, hni, rfl⟩ : ∃ n, wy[i]? = some n ∧ y = V.int (n : Nat) := by
        unfold intsV at hi
        rw [List.getElem?_map] at hi
        cases e : wy[i]? with
        | none => rw [e] at hi; cases hi
        | some x => rw [e] at hi; exact ⟨x, rfl, (Option.some.inj hi).symm⟩
      have hnm := List.mem_of_getElem? hni
      obtain ⟨n1, n2⟩ := hwy n hnm
      have hOG := hO.keep hG
      have hxl : xs.length = sts.length := Paired.length hO.st
      obtain ⟨⟨dx, r1, r2, r3, eO, _, _, _⟩, _⟩ := id hOG
      have no2 : (oFl r1 r2 r3).lookup ("step_at" : Str) = none := oFl_no _ _ _ (by decide +kernel) (by decide +kernel) (by decide +kernel)
      obtain ⟨v, hv⟩ : ∃ v, xs[n - 1]? = some v := ⟨_, List.getElem?_eq_getElem (by omega)⟩
      obtain ⟨st, est, hvt, hok⟩ := Paired.get hOG.st hv
      have hgd : sts.getD (n - 1) .nd = st := by
        rw [List.getD_eq_getElem?_getD, est]
        rfl
      have hti : wayMarks sts (wy.take (i + 1)) = wayMarks sts (wy.take i) ++ st.marks.map fun m => (n, m) := by
        unfold wayMarks
        rw [take_more hni, List.flatMap_append]
        show _ ++ (lineMarks sts n ++ []) = _
        rw [List.append_nil]
        unfold lineMarks
        rw [hgd]
      have hil : i ≤ 900 := by
        have := (List.getElem?_eq_some_iff.mp hni).1
        omega
      have hlen0 : (wayMarks sts (wy.take i)).length ≤ 1800 := by
        have a := wayMarks_len sts (wy.take i)
        rw [List.length_take] at a
        omega
      refine ⟨rfl, _, rfl, p, dx, _, rfl, eO, no2, _, rfl, p, rows, xs, sts, tg, n - 1, v, (by rw [show n - 1 + 1 = n by omega]; rfl), hOG, hv, v, st, rfl, hvt, hok, fun m0 G1 s2 hm0 => ?_⟩
      have hG1 := hG.trans s2
      have hMm : M0 ≠ m0 := ne_of (s2 _ _ gM) hm0 (by intro z; cases z)
      refine ⟨m0, rfl, ⟨_, SqL.of hm0⟩, for_list (K := K) (a := m0) (xs := st.marks.map V.str) (fun j σ G => ∃ kvs3 v6, σ = [some (.ref p), some (.ref aw), some (.ref fM), some (.ref D), some (.ref M0), some (.int (n : Nat)), v6] ∧ Same H G ∧ G M0 = some (.dK kvs3) ∧ G m0 = some (.lst (st.marks.map V.str)) ∧
        Cnts kvs3 ((wayMarks sts (wy.take i)).map (·.2) ++ st.marks.take j) ∧ aboveGo lim (wayMarks sts (wy.take i) ++ (st.marks.take j).map fun m => (n, m)) [] = none)
        ⟨kvs2, _, rfl, hG1, s2 _ _ gM, hm0, by rw [List.take_zero, List.append_nil]; exact hC, by rw [List.take_zero, List.map_nil, List.append_nil]; exact hA⟩ (fun j σ G _ ⟨_, _, _, _, _, e, _⟩ => SqL.of e) ?_ ?_⟩
      · rintro j y σ G2 hj ⟨kvs3, v6', rfl, hG2, gM2, gm2, hC2, hA2⟩
        obtain ⟨m, hmj, rfl⟩ : ∃ m, st.marks[j]? = some m ∧ y = V.str m := by
          rw [List.getElem?_map] at hj
          cases e : st.marks[j]? with
          | none => rw [e] at hj; cases hj
          | some x => rw [e] at hj; exact ⟨x, rfl, (Option.some.inj hj).symm⟩
        obtain ⟨seen, hseen⟩ : ∃ seen, seen = (wayMarks sts (wy.take i)).map (·.2) ++ st.marks.take j := ⟨_, rfl⟩
        rw [← hseen] at hC2
        have hseen2 : (wayMarks sts (wy.take i) ++ (st.marks.take j).map fun m => (n, m)).map (·.2) = seen := by
          rw [hseen, List.map_append, List.map_map]
          congr 1
          exact List.map_id _
        have hsl : seen.length ≤ 1802 := by
          rw [hseen, List.length_append, List.length_map, List.length_take]
          have := marks_len st
          omega
        have hk2 := hC2.2
        have hget : (valV kvs3 (Sum.inr m)).getD (.int 0) = .int ((seen.count m : Nat) : Int) := by
          rw [hC2.1 m]
          by_cases z : seen.count m = 0
          · rw [if_pos z, z]
            rfl
          · rw [if_neg z]
            rfl
        have hC3 := hC2.put m
        have hgo : aboveGo lim (wayMarks sts (wy.take i) ++ (st.marks.take (j + 1)).map fun m => (n, m)) [] = if lim m < seen.count m + 1 then some n else none := by
          rw [take_more hmj, List.map_append, ← List.append_assoc, above_more lim _ _ _ hA2, List.nil_append, hseen2]
          rfl
        have gM3 : (upd G2 M0 (.dK (putK kvs3 (Sum.inr m) (.int ((seen.count m : Nat) + 1 : Int))))) M0 = some (.dK (putK kvs3 (Sum.inr m) (.int ((seen.count m : Nat) + 1 : Int)))) := upd_same
        have hs3 := Same.write (o := .dK (putK kvs3 (Sum.inr m) (.int ((seen.count m : Nat) + 1 : Int)))) hG2 HM
        have hv3 : valV (putK kvs3 (Sum.inr m) (.int ((seen.count m : Nat) + 1 : Int))) (Sum.inr m) = some (.int ((seen.count m : Nat) + 1 : Int)) := by
          rw [valV_put, if_pos rfl]
        have hlimm := hlim n hnm m (by rw [hgd]; exact List.mem_of_getElem? hmj)
        refine ⟨_, rfl, M0, rfl, .inl ⟨_, .inl gM2⟩, _, rfl, _, DGet.k (k := Sum.inr m) gM2, _, _, hget, rfl, _, rfl, _, rfl, M0, _, rfl, DPut.k (k := Sum.inr m) gM2 ?_, ?_⟩
        · have : 1802 < sizeLine := by decide
          omega
        have dD : DGet (upd G2 M0 (.dK (putK kvs3 (Sum.inr m) (.int ((seen.count m : Nat) + 1 : Int))))) M0 (.str m) (some (.int ((seen.count m : Nat) + 1 : Int))) := by
          rw [← hv3]
          exact DGet.k (k := Sum.inr m) gM3
        have dL : DGet (upd G2 M0 (.dK (putK kvs3 (Sum.inr m) (.int ((seen.count m : Nat) + 1 : Int))))) D (.str m) (some (.int (lim m : Nat))) := by
          rw [← hlimm]
          exact DGet.k (k := Sum.inr m) (hs3 _ _ hD)
        refine ⟨_, rfl, _, rfl, M0, _, rfl, dD, _, rfl, _, rfl, D, _, rfl, dL, _, _, rfl, rfl, _, rfl, ?_⟩
        by_cases hh : lim m < seen.count m + 1
        · rw [if_pos hh] at hgo
          refine ifT3 (decide_eq_true (by omega)) ?_
          refine ⟨_, rfl, ?_⟩
          have fin : aboveGo lim (wayMarks sts wy) [] = some n := by
            have e1 : wayMarks sts wy = (wayMarks sts (wy.take i) ++ (st.marks.take (j + 1)).map fun m => (n, m)) ++ ((st.marks.drop (j + 1)).map (fun m => (n, m)) ++ wayMarks sts (wy.drop (i + 1))) := by
              rw [List.append_assoc, ← List.append_assoc (((st.marks.take (j + 1)).map fun m => (n, m))), ← List.map_append, List.take_append_drop, ← List.append_assoc, ← hti]
              unfold wayMarks
              rw [← List.flatMap_append, List.take_append_drop]
            rw [e1]
            exact above_hit lim _ _ _ hgo
          have kk := k _ hs3
          rw [fin] at kk
          exact kk
        · rw [if_neg hh] at hgo
          refine ifF3 (decide_eq_false (by omega)) ?_
          refine ⟨_, _, rfl, hs3, gM3, by rw [upd_ne hMm.symm]; exact gm2, ?_, hgo⟩
          rw [take_more hmj, ← List.append_assoc, ← hseen]
          exact hC3
      · rintro σ G2 ⟨kvs3, v6', rfl, hG2, gM2, gm2, hC2, hA2⟩
        rw [List.length_map, List.take_length] at hC2 hA2
        refine ⟨kvs3, _, _, rfl, hG2, gM2, ?_, by rw [hti]; exact hA2⟩
        rw [hti, List.map_append, List.map_map]
        have e : (st.marks.map ((fun x => x.2) ∘ fun m => (n, m))) = st.marks := List.map_id _
        rw [e]
        exact hC2
    · rintro σ G ⟨kvs2, v5, v6, rfl, hG, gM, hC, hA⟩
      unfold intsV at hA
      rw [List.length_map, List.take_length] at hA
      have kk := k G hG
      rw [hA] at kk
      exact kk
end
end K02

set_option Elab.async false
set_option linter.all false
set_option maxRecDepth 100000
set_option maxHeartbeats 8000000
/-! Outlines, g: the least broken line refused -/
namespace K02
open PySem L2
abbrev sRefI : Stmt := inClass (top 4) 0
def spRefuse (K : PySem.W.Frag) (CR : Addr) : Sp := fun vs H Q E => ∃ (a : Addr) (os : List (Option Nat)), vs = [.ref a] ∧ SqL K H a (os.map optN) ∧ os.length ≤ 900 ∧ (os.filterMap id = [] → ∀ H', Same H H' → Q .non H') ∧
  (∀ m ∈ os.filterMap id, (∀ y ∈ os.filterMap id, m ≤ y) → ∀ d H', Same H H' → H d = none → H' d = some (.xd [("line", .int (m : Nat))]) → E (.ref CR) (some d) H')
/-- the facts of Refused -/
structure TxtR (P : Program) (K : PySem.W.Frag) (mg : Str → Option Value) (CR fI cc cda : Addr) : Prop where
  g : mg "Refused" = some (.ref CR)
  t : ErrA.ErrTxt P K CR fI cc cda "Refused.__init__" sRefI
  b : ErrA.ErrBody P sRefI "line" []
  n : ∀ g ∈ [("line" : Str)], PySem.W.findIn K (.ref CR) g = some none
  min : mg "min" = none
section
variable {P : Program} {w : World} {K : PySem.W.Frag} {mg : Str → Option Value} {base : Heap}
abbrev nmRef : List Str := ["lines", "broken", "line"]
theorem scRefuse : FnScope nmRef ["lines"] (defScope sRefuse) := ⟨rfl, rfl, rfl, by decide +kernel, rfl, by decide +kernel, by decide +kernel⟩
theorem ok_refuse {f CR fI cc cda : Addr} {fd : FuncData} (F : Fun K "refuse_least" "refuse_least" sRefuse f fd) (T : TxtN mg) (R : TxtR P K mg CR fI cc cda) :
    FnOk P w K mg base (L2.CX P w) 1 f fd ["lines"] (spRefuse K CR) := by
  refine F.okX scRefuse (fun vs H Q E h => ?_) (fun cdv A outer s H vs Q E hr h => ?_)
  · obtain ⟨a, os, rfl, _⟩ := h
    rfl
  · obtain ⟨a, os, rfl, ha, hl, k1, k2⟩ := h
    refine ⟨_, pss_cons (ps_setLc (i := 1) (own := [("line", 2)]) (g := gName 2) rfl scRefuse.nd rfl rfl (sw_true rfl rfl rfl (by decide +kernel)) (pi_list (pv 0)) (blkOk_by (own := [("line", 2)]) (N := nmRef) (sc := defScope sRefuse) (by decide +kernel)) (fun _ _ _ _ _ => pg_name (i := 2) scRefuse.nd rfl (Or.inl rfl)) (fun _ _ _ _ _ => pts_one (pt_cmpR op_notN (pv 2) pe_non (nomark _))) (fun _ _ _ _ _ => pv 2))
      (pss_one (ps_if (pt_truth (pv 1) (by intro _; rfl)) (pss_one (ps_raiseErr rfl R.t R.b R.n hr R.g (takes_of rfl rfl rfl rfl) (pa_cons (pe_callB (cr_min rfl) (by rfl) R.min (by kernel_rfl) (pa_cons (pv 1) pa_nil)) pa_nil))) pss_nil)), ?_⟩
    refine ⟨_, rfl, a, rfl, ⟨_, ha⟩, fun D nD => ?_⟩
    have sD := Same.new (o := .lst []) nD
    refine lc_list (K := K) (a := a) (xs := os.map optN) (fun i G => Same H G ∧ G D = some (.lst (intsV ((os.take i).filterMap id)))) ⟨sD, upd_same⟩ (fun i G _ ⟨e, _⟩ => e.seq ha) ?_ ?_
    · rintro i y G hi ⟨hG, gD⟩
      obtain ⟨o, ho, rfl⟩ : ∃ o, os[i]? = some o ∧ y = optN o := by
        rw [List.getElem?_map] at hi
        cases e : os[i]? with
        | none => rw [e] at hi; cases hi
        | some x => rw [e] at hi; exact ⟨x, rfl, (Option.some.inj hi).symm⟩
      have hle : ((os.take i).filterMap id).length ≤ 900 := Nat.le_trans (List.length_filterMap_le _ _) (by rw [List.length_take]; omega)
      refine ⟨rfl, ?_⟩
      refine ⟨_, rfl, rfl, _, rfl, ?_⟩
      cases o with
      | none =>
        refine iteF ?_
        refine ⟨hG, ?_⟩
        rw [take_more ho, List.filterMap_append]
        show G D = some (.lst (intsV ((os.take i).filterMap id ++ [])))
        rw [List.append_nil]
        exact gD
      | some n =>
        refine iteT ?_
        refine ⟨_, rfl, _, gD, small1000 (by unfold intsV; rw [List.length_map]; omega), Same.write hG nD, ?_⟩
        rw [take_more ho, List.filterMap_append]
        have e : intsV ((os.take i).filterMap id ++ [some n].filterMap id) = intsV ((os.take i).filterMap id) ++ [V.int (n : Nat)] := by
          unfold intsV
          rw [List.map_append]
          rfl
        rw [e]
        exact upd_same
    · rintro G ⟨hG, gD⟩
      rw [List.length_map, List.take_length] at gD
      cases hb : os.filterMap id with
      | nil =>
        rw [hb] at gD
        refine ⟨_, rfl, false, .inl ⟨_, SqL.of gD, rfl⟩, ?_⟩
        refine iteF ?_
        exact k1 hb G hG
      | cons n0 rest =>
        refine ⟨_, rfl, true, .inl ⟨_, SqL.of gD, by rw [hb]; rfl⟩, ?_⟩
        refine iteT ?_
        have hint : intsV (os.filterMap id) = ((os.filterMap id).map fun n => ((n : Nat) : Int)).map V.int := by
          unfold intsV
          rw [List.map_map]
          rfl
        rw [hint] at gD
        refine ⟨_, rfl, D, _, rfl, SqL.of gD, by rw [List.length_map, hb]; exact Nat.succ_pos _, fun m hm hmin => ?_⟩
        obtain ⟨m', hm', rfl⟩ := List.mem_map.mp hm
        refine ⟨rfl, fun d nd => ?_⟩
        exact k2 m' hm' (fun y hy => by
          have := hmin _ (List.mem_map.mpr ⟨y, hy, rfl⟩)
          omega) d _ (hG.trans (Same.new nd)) (none_of hG nd) upd_same
end
end K02

set_option Elab.async false
set_option linter.all false
set_option maxRecDepth 100000
set_option maxHeartbeats 8000000
/-! Head codes, d: a code made -/
namespace K02
open PySem L2
abbrev sHI : Stmt := inClass (top 49) 0
def kinds8 : List Str := ["make", "size", "used", "ahead", "use", "free", "meet", "part"]
structure TxtK (K : PySem.W.Frag) (mg : Str → Option Value) (C : Addr) : Prop where
  cl : Cls K C
  nK : NoAttr K C "kind"
  nT : NoAttr K C "text"
  nO : NoAttr K C "outline"
  mgC : mg "HeadCode" = some (.ref C)
  hk : ∃ c, mg "HEAD_KINDS" = some (.ref c) ∧ ∀ H, SqT K H c (kinds8.map V.str)
  ml : ∃ t, mg "MOST_LINES" = some (.int 20 t)
  mi : ∃ t, mg "MOST_IFS" = some (.int 4 t)
  ms : ∃ t, mg "MOST_SET" = some (.int 3 t)
  mm : ∃ t, mg "MOST_MADE" = some (.int 6 t)
def limM (m : Str) : Nat := if m = "made" then 6 else 3
def faultM (sts : List St) (w : List Nat) : Option Nat := aboveGo limM (wayMarks sts w) []
theorem kKT : ¬ (("kind" : Str) = "text") := by decide +kernel
theorem kKO : ¬ (("kind" : Str) = "outline") := by decide +kernel
theorem kTO : ¬ (("text" : Str) = "outline") := by decide +kernel
def hFl (k t : Str) (o : Addr) : List (Str × V) := putF "outline" (.ref o) (putF "text" (.str t) (putF "kind" (.str k) []))
theorem hFl_o (k t : Str) (o : Addr) : (hFl k t o).lookup ("outline" : Str) = some (.ref o) := by
  unfold hFl
  rw [lookup_putF, if_pos rfl]
def spHI (K : PySem.W.Frag) (C CR : Addr) : Sp := fun vs H Q E => ∃ (p dx : Addr) (x kd : Str) (rows : List Str) (sts : List St) (tg : List V) (R : Nat → List (List Nat)), vs = [.ref p, .str kd, .str x] ∧ H p = some (.ins C dx []) ∧ kd ∈ kindsL ∧ x.length + 2 ≤ sizeLine ∧ linesM x = rows ∧
  rows.length ≤ 20 ∧ (∀ r ∈ rows, RowOk r) ∧ readGo kd rows [] [] = some (sts, []) ∧ sts.countP isIf ≤ 4 ∧ tgM sts = some tg ∧ RunEq sts tg R ∧ (R 0).length ≤ 900 ∧
  ((∀ w ∈ R 0, faultM sts w = none) → ∀ H', But p H H' → Q .non H') ∧
  (∀ m, (∃ w ∈ R 0, faultM sts w = some m) → (∀ w ∈ R 0, ∀ y, faultM sts w = some y → m ≤ y) → ∀ d H', But p H H' → H d = none → H' d = some (.xd [("line", .int (m : Nat))]) → E (.ref CR) (some d) H')
theorem stepS_marks {kd : Str} {ws : List Str} {st : St} (h : stepS kd ws = some st) : ∀ m ∈ st.marks, m ∈ regs ++ [toldM kd] ∨ m = "made" := by
  unfold stepS at h
  split at h
  · cases h
    intro m hm
    cases hm
  split at h
  · cases h
    intro m hm
    cases hm
  split at h
  · cases h
  split at h
  case isFalse => cases h
  case isTrue hc =>
    unfold stepSetS at h
    split at h
    · cases h
      intro m hm
      rw [List.mem_singleton.mp hm]
      exact .inl hc.2
    · split at h
      · cases h
      · split at h
        · cases h
        · cases h
          intro m hm
          rcases List.mem_cons.mp hm with e | e
          · rw [e]
            exact .inl hc.2
          · exact .inr (List.mem_singleton.mp e)
theorem readS_marks {kd : Str} {ws nest n2 : List Str} {st : St} (h : readS kd ws nest = some (st, n2)) : ∀ m ∈ st.marks, m ∈ regs ++ [toldM kd] ∨ m = "made" := by
  unfold readS at h
  split at h
  · cases e : testM (hPartM kd) (ws.drop 1) with
    | none => rw [e] at h; cases h
    | some t => rw [e] at h; cases h; intro m hm; cases hm
  split at h
  · split at h
    · cases h
    · cases h; intro m hm; cases hm
  split at h
  · split at h
    · cases h
    · cases h; intro m hm; cases hm
  · cases e : stepS kd ws with
    | none => rw [e] at h; cases h
    | some s => rw [e] at h; cases h; exact stepS_marks e
theorem readGo_marks {kd : Str} {sts : List St} {n2 : List Str} : ∀ (rows : List Str) (acc : List St) (nest : List Str), readGo kd rows acc nest = some (sts, n2) → (∀ st ∈ acc, ∀ m ∈ st.marks, m ∈ regs ++ [toldM kd] ∨ m = "made") → ∀ st ∈ sts, ∀ m ∈ st.marks, m ∈ regs ++ [toldM kd] ∨ m = "made"
  | [], acc, nest, h, ha => by
    have e : (acc, nest) = (sts, n2) := Option.some.inj h
    cases e
    exact ha
  | r :: rs, acc, nest, h, ha => by
    have h' : (match readS kd (Txt.split r " ") nest with
      | none => none
      | some (st, n2) => readGo kd rs (acc ++ [st]) n2) = some (sts, n2) := h
    cases e : readS kd (Txt.split r " ") nest with
    | none => rw [e] at h'; cases h'
    | some q =>
      obtain ⟨st, n3⟩ := q
      rw [e] at h'
      refine readGo_marks rs _ _ h' fun s hs => ?_
      rcases List.mem_append.mp hs with z | z
      · exact ha s z
      · rw [List.mem_singleton.mp z]
        exact readS_marks e
theorem readGo_len {kd : Str} {sts : List St} {n2 : List Str} : ∀ (rows : List Str) (acc : List St) (nest : List Str), readGo kd rows acc nest = some (sts, n2) → sts.length = acc.length + rows.length
  | [], acc, nest, h => by
    have e : (acc, nest) = (sts, n2) := Option.some.inj h
    cases e
    rfl
  | r :: rs, acc, nest, h => by
    have h' : (match readS kd (Txt.split r " ") nest with
      | none => none
      | some (st, n2) => readGo kd rs (acc ++ [st]) n2) = some (sts, n2) := h
    cases e : readS kd (Txt.split r " ") nest with
    | none => rw [e] at h'; cases h'
    | some q =>
      obtain ⟨st, n3⟩ := q
      rw [e] at h'
      have z := readGo_len rs _ _ h'
      rw [List.length_append] at z
      rw [List.length_cons, z]
      show acc.length + 1 + _ = _
      omega
/-- lines on a way stand in it, and are not more than there are -/
theorem RunEq.within {sts : List St} {tg : List V} {R : Nat → List (List Nat)} (h : RunEq sts tg R) : ∀ (m l : Nat), sts.length - l ≤ m → l ≤ sts.length → ∀ w ∈ R l, w.length + l ≤ sts.length ∧ ∀ n ∈ w, l < n ∧ n ≤ sts.length
  | m, l, hm, hl => by
    by_cases e : l < sts.length
    case neg =>
      rw [h.out l (by omega)]
      intro w hw
      rw [List.mem_singleton.mp hw]
      exact ⟨by simp; omega, fun n hn => nomatch hn⟩
    have hs : sts[l]? = some sts[l] := List.getElem?_eq_getElem e
    cases m with
    | zero => omega
    | succ m =>
    have step : ∀ t, l < t → t ≤ sts.length → ∀ w ∈ (R t).map ((l + 1) :: ·), w.length + l ≤ sts.length ∧ ∀ n ∈ w, l < n ∧ n ≤ sts.length := fun t h1 h2 w hw => by
      obtain ⟨q, hq, rfl⟩ := List.mem_map.mp hw
      obtain ⟨a, b⟩ := RunEq.within h m t (by omega) h2 q hq
      refine ⟨by rw [List.length_cons]; omega, fun n hn => ?_⟩
      rcases List.mem_cons.mp hn with z | z
      · omega
      · have := b n z
        omega
    generalize sts[l] = st at hs
    cases st with
    | fin x =>
      rw [h.fin l x hs]
      intro w hw
      rw [List.mem_singleton.mp hw]
      exact ⟨by show 1 + l ≤ _; omega, fun n hn => by rw [List.mem_singleton.mp hn]; omega⟩
    | nd =>
      rw [h.nd l hs]
      intro w hw
      obtain ⟨a, b⟩ := RunEq.within h m (l + 1) (by omega) (by omega) w hw
      exact ⟨by omega, fun n hn => by have := b n hn; omega⟩
    | set n sm sg k => rw [h.set l _ _ _ _ hs]; exact step (l + 1) (by omega) (by omega)
    | els =>
      obtain ⟨t, _, h1, h2, h3⟩ := h.els l hs
      rw [h3]
      intro w hw
      obtain ⟨a, b⟩ := RunEq.within h m t (by omega) h2 w hw
      exact ⟨by omega, fun n hn => by have := b n hn; omega⟩
    | iff c =>
      obtain ⟨t, _, h1, h2, h3⟩ := h.iff l c hs
      rw [h3]
      intro w hw
      rcases List.mem_append.mp hw with z | z
      · exact step (l + 1) (by omega) (by omega) w z
      · exact step t h1 h2 w z
section
variable {P : Program} {w : World} {K : PySem.W.Frag} {mg : Str → Option Value} {base : Heap}
abbrev nmHI : List Str := ["self", "kind", "text", "most", "name", "way"]
theorem scHI : FnScope nmHI ["self", "kind", "text"] (defScope sHI) := ⟨rfl, rfl, rfl, by decide +kernel, rfl, by decide +kernel, by decide +kernel⟩
theorem ok_hinit {f C CO CR fA fR fS fP fW fB fM fL : Addr} {fd fdA fdR fdW fdB fdL : FuncData} (F : Fun K "__init__" "HeadCode.__init__" sHI f fd) (T : TxtN mg) (TH : TxtH K w mg) (TK : TxtK K mg C)
    (GA : FnOk P w K mg base CX0 1 fA fdA ["value", "words"] (spAmong K)) (kA : PySem.W.keepIn K (.ref fA) = true) (bA : Binds K fdA ["value", "words"] []) (gA : mg "is_among" = some (.ref fA))
    (GR : FnOk P w K mg base CX0 7 fR fdR ["text", "kind", "step_in", "part_in", "most_lines", "most_ifs", "loop_in"] (spOutl K CO fS fP)) (kR : PySem.W.keepIn K (.ref fR) = true) (bR : Binds K fdR ["text", "kind", "step_in", "part_in", "most_lines", "most_ifs", "loop_in"] dsR) (rR : Vals [V.non] dsR) (gR : mg "read_outline" = some (.ref fR))
    (gS : mg "head_step_in" = some (.ref fS)) (gP : mg "head_part_in" = some (.ref fP)) (gM : mg "marks_of" = some (.ref fM))
    (GW : FnOk P w K mg base CX0 2 fW fdW ["outline"] (spWays K CO)) (kW : PySem.W.keepIn K (.ref fW) = true) (bW : Binds K fdW ["outline"] []) (gW : mg "ways_through" = some (.ref fW))
    (GB : FnOk P w K mg base CX0 2 fB fdB ["outline", "way", "marks_of", "most"] (spAbove K CO fM)) (kB : PySem.W.keepIn K (.ref fB) = true) (bB : Binds K fdB ["outline", "way", "marks_of", "most"] []) (gB : mg "line_above" = some (.ref fB))
    (GL : FnOk P w K mg base (L2.CX P w) 1 fL fdL ["lines"] (spRefuse K CR)) (kL : PySem.W.keepIn K (.ref fL) = true) (bL : Binds K fdL ["lines"] []) (gL : mg "refuse_least" = some (.ref fL)) :
    FnOk P w K mg base (L2.CX P w) 8 f fd ["self", "kind", "text"] (spHI K C CR) := by
  obtain ⟨cR, hcR, hCR⟩ := TH.rg
  obtain ⟨cT, hcT, hCT⟩ := TH.to
  obtain ⟨cK, hcK, hCK⟩ := TK.hk
  obtain ⟨t1, hml⟩ := TK.ml
  obtain ⟨t2, hmi⟩ := TK.mi
  obtain ⟨t3, hms⟩ := TK.ms
  obtain ⟨t4, hmm⟩ := TK.mm
  refine F.okX scHI (fun vs H Q E h => ?_) (fun cdv A outer s H vs Q E hr h => ?_)
  · obtain ⟨p, dx, x, kd, rows, sts, tg, R, rfl, _⟩ := h
    rfl
  · obtain ⟨p, dx, x, kd, rows, sts, tg, R, rfl, hp, hkd, hx, hrows, hn, hrok, hgo, hif, htg, hR, hRl, kOk, kBad⟩ := h
    have hr1 : Room 1 _ := hr.mono (by decide)
    have hr2 : Room 2 _ := hr.mono (by decide)
    have hr7 : Room 7 _ := hr.mono (by decide)
    have hu := hu_of hr
    refine ⟨_, pss_cons (ps_if (pt_not (pt_val (pe_call GA hr1 rfl gA kA bA .nil pass0 (pa_cons (pv 1) (pa_cons (pe_tup (StX.pa_star (pe_glob (v := .ref cK) (by rfl) hcK rfl) (pa_cons pe_str pa_nil))) pa_nil))))) (pss_one PS.ghost) pss_nil)
      (pss_cons (ps_fld (pv 0) (pv 1) rfl)
      (pss_cons (ps_fld (pv 0) (pv 2) rfl)
      (pss_cons (ps_fld (pv 0) (pe_call GR hr7 rfl gR kR bR rR pass0 (pa_cons (pv 2) (pa_cons (pv 1) (pa_cons (pe_glob (v := .ref fS) (by rfl) gS rfl) (pa_cons (pe_glob (v := .ref fP) (by rfl) gP rfl) (pa_cons (pe_glob (v := .int 20) (by rfl) hml ⟨t1, rfl⟩) (pa_cons (pe_glob (v := .int 4) (by rfl) hmi ⟨t2, rfl⟩) pa_nil))))))) rfl)
      (pss_cons (ps_set (i := 3) scHI.nd rfl (.inr rfl) (pe_dc (own := [("name", 4)]) (g := gName 4) rfl scHI.nd (pi_tup (pe_tup (StX.pa_star (pe_glob (v := .ref cR) (by rfl) hcR rfl) (pa_cons (pe_ix ix_kdict (pe_glob (v := .ref cT) (by rfl) hcT rfl) (pv 1) (fun _ _ => rfl)) pa_nil)))) (blkOk_by (own := [("name", 4)]) (N := nmHI) (sc := defScope sHI) (by decide +kernel)) (fun _ _ _ _ _ => pg_name (i := 4) scHI.nd rfl (Or.inl rfl)) (fun _ _ _ _ _ => pts_nil) (fun _ _ _ _ _ => pv 4) (fun _ _ _ _ _ => pe_glob (v := .int 3) (by rfl) hms ⟨t3, rfl⟩)))
      (pss_cons (ps_dput hu (pv 3) pe_str (pe_glob (v := .int 6) (by rfl) hmm ⟨t4, rfl⟩) rfl)
      (pss_one (ps_expr (pe_callS GL hr1 rfl gL kL bL (fun σ => passAt (takes_of rfl rfl rfl rfl) σ) (by exact (pa_cons
        (pe_lc (own := [("way", 5)]) (g := gName 5) (te := tCall (spAbove K CO fM) [] E0 (tCons (tFld K (tVar 0) "outline") (tCons (tVar 5) (tCons (tC (.ref fM)) (tCons (tVar 3) tNil))))) rfl scHI.nd (by exact pi_list (pe_call GW hr2 rfl gW kW bW .nil pass0 (pa_cons (pe_fld (pv 0) rfl) pa_nil))) (blkOk_by (own := [("way", 5)]) (N := nmHI) (sc := defScope sHI) (by decide +kernel)) (fun _ _ _ _ _ => pg_name (i := 5) scHI.nd rfl (Or.inl rfl)) (fun _ _ _ _ _ => pts_nil)
          (fun _ _ _ _ _ => by exact (pe_call GB hr2 rfl gB kB bB .nil pass0 (by exact (pa_cons (pe_fld (pv 0) rfl) (pa_cons (pv 5) (pa_cons (pe_glob (v := .ref fM) (by rfl) gM rfl) (pa_cons (pv 3) pa_nil))))))))
        pa_nil)))))))))), ?_⟩
    have hsl : sts.length = rows.length := by
      have z := readGo_len _ _ _ hgo
      rw [z]
      exact Nat.zero_add _
    have hk9 : kd ∈ kinds8 ++ [("round" : Str)] := hkd
    refine ⟨_, rfl, cK, _, rfl, .inl (hCK _), (by show 9 ≤ sizeLine; decide), fun q nq => ?_⟩
    have sq := Same.new (o := .tup ((kinds8 ++ [("round" : Str)]).map V.str)) nq
    refine ⟨kd, q, kinds8 ++ [("round" : Str)], rfl, SqT.of upd_same, _, rfl, ?_⟩
    refine ifF3 (by rw [decide_eq_true hk9]; rfl) ?_
    refine ⟨_, rfl, _, rfl, p, C, dx, [], rfl, sq _ _ hp, TK.cl, TK.nK, (by show 0 < 1000; decide), ?_⟩
    refine ⟨_, rfl, _, rfl, p, C, dx, _, rfl, upd_same, TK.cl, TK.nT, (by show 1 < 1000; decide), ?_⟩
    have b2 : But p H _ := (But.same sq).trans ((But.upd (p := p) (o := .ins C dx (putF "kind" (.str kd) []))).trans (But.upd (p := p) (o := .ins C dx (putF "text" (.str x) (putF "kind" (.str kd) [])))))
    refine ⟨_, rfl, _, rfl, x, kd, 20, 4, rows, sts, tg, rfl, hkd, hx, hrows, by omega, by omega, hrok, hgo, by omega, htg, fun o xs G sG hO => ?_⟩
    have gp := sG _ _ (upd_same (a := p))
    have hop : o ≠ p := fun z => by
      obtain ⟨⟨dx', r1, r2, r3, eO, _⟩, _⟩ := hO
      rw [z] at eO
      have e := HO.ins.inj (Option.some.inj (gp.symm.trans eO))
      have e2 := congrArg (fun l : List (Str × V) => l.lookup ("rows" : Str)) e.2.2
      have z1 : (putF "text" (V.str x) (putF "kind" (V.str kd) [])).lookup ("rows" : Str) = none := by
        rw [lookup_putF, if_neg (by decide +kernel), lookup_putF, if_neg (by decide +kernel)]
        rfl
      have e3 : (putF "text" (V.str x) (putF "kind" (V.str kd) [])).lookup ("rows" : Str) = (oFl r1 r2 r3).lookup ("rows" : Str) := e2
      rw [z1, oFl_r] at e3
      cases e3
    refine ⟨_, rfl, p, C, dx, _, rfl, gp, TK.cl, TK.nO, (by show 2 < 1000; decide), ?_⟩
    obtain ⟨G1, hG1⟩ : ∃ G1, G1 = upd G p (.ins C dx (hFl kd x o)) := ⟨_, rfl⟩
    have gp1 : G1 p = some (.ins C dx (hFl kd x o)) := by
      rw [hG1]
      exact upd_same
    have bG : But p G G1 := by
      rw [hG1]
      exact But.upd
    have bH : But p H G1 := b2.trans ((But.same sG).trans bG)
    have hO1 : OutAt K CO G1 o rows xs sts tg := by
      obtain ⟨⟨dx', r1, r2, r3, eO, h1, h2, h3⟩, h4⟩ := hO
      have tk := bG.tk gp
      exact ⟨⟨dx', r1, r2, r3, bG _ _ eO hop, tk _ _ _ h1, tk _ _ _ h2, tk _ _ _ h3⟩, h4.keep tk⟩
    show tSeq _ _ _ _ (upd G p (.ins C dx (hFl kd x o)))
    rw [← hG1]
    refine ⟨cR, _, rfl, .inl (hCR _), _, rfl, cT, kd, _, rfl, rfl, hCT kd hkd, (by show 4 ≤ sizeLine; decide), fun tN nN => ?_⟩
    have sN := Same.new (o := .tup ((regs ++ [toldM kd]).map V.str)) nN
    refine ⟨tN, rfl, ⟨_, SqT.of upd_same⟩, fun D nD => ?_⟩
    have sD := Same.new (o := .dK []) nD
    have tNn : G1 tN = none := nN
    refine dc_tup (K := K) (a := tN) (xs := (regs ++ [toldM kd]).map V.str) (fun i G2 => Same (upd G1 tN (.tup ((regs ++ [toldM kd]).map V.str))) G2 ∧ ∃ kvs, G2 D = some (.dK kvs) ∧ kvs.length ≤ i ∧ ∀ m ∈ (regs ++ [toldM kd]).take i, valV kvs (Sum.inr m) = some (.int 3))
      ⟨sD, [], upd_same, Nat.le_refl _, fun m hm => nomatch hm⟩ (fun i G2 _ ⟨e, _⟩ => seqT e (SqT.of upd_same)) ?_ ?_
    · rintro i y G2 hi ⟨s2, kvs, gD, hkl, hval⟩
      obtain ⟨m, hm, rfl⟩ : ∃ m, (regs ++ [toldM kd])[i]? = some m ∧ y = V.str m := by
        rw [List.getElem?_map] at hi
        cases e : (regs ++ [toldM kd])[i]? with
        | none => rw [e] at hi; cases hi
        | some z => rw [e] at hi; exact ⟨z, rfl, (Option.some.inj hi).symm⟩
      have hi4 : i < 4 := (List.getElem?_eq_some_iff.mp hm).1
      refine ⟨rfl, ?_⟩
      unfold tYes
      refine iteT ?_
      refine ⟨_, rfl, kvs, Sum.inr m, rfl, gD, small1000 (by omega), Same.write s2 nD, _, upd_same, Nat.le_trans (putK_len _ _ _) (by omega), fun k hk => ?_⟩
      rw [valV_put]
      by_cases e : k = m
      · rw [if_pos (congrArg Sum.inr e)]
      · rw [if_neg fun z => e (Sum.inr.inj z)]
        rw [take_more hm] at hk
        rcases List.mem_append.mp hk with z | z
        · exact hval k z
        · exact absurd (List.mem_singleton.mp z) e
    · rintro G2 ⟨s2, kvs, gD, hkl, hval⟩
      rw [List.length_map, List.take_length] at hval
      have hkl4 : kvs.length ≤ 4 := hkl
      refine ⟨_, rfl, D, _, rfl, DPut.k (k := Sum.inr ("made" : Str)) gD (small1000 (by omega)), ?_⟩
      obtain ⟨kvs2, hkvs2⟩ : ∃ kvs2, kvs2 = putK kvs (Sum.inr ("made" : Str)) (.int 6) := ⟨_, rfl⟩
      rw [← hkvs2]
      obtain ⟨G3, hG3⟩ : ∃ G3, G3 = upd G2 D (.dK kvs2) := ⟨_, rfl⟩
      rw [← hG3]
      have gD3 : G3 D = some (.dK kvs2) := by
        rw [hG3]
        exact upd_same
      have hDG : G1 D = none := none_of sN nD
      have s3 : Same G1 G3 := by
        rw [hG3]
        exact Same.write (sN.trans s2) hDG
      have notMade : ∀ kd : Str, ("made" : Str) ∉ regs ++ [toldM kd] := fun kd z => by
        rcases List.mem_append.mp z with e | e
        · exact absurd e (by decide +kernel)
        · have e2 : ("made" : Str) = toldM kd := List.mem_singleton.mp e
          unfold toldM at e2
          split at e2
          · exact absurd e2 (by decide +kernel)
          split at e2
          · exact absurd e2 (by decide +kernel)
          split at e2
          · exact absurd e2 (by decide +kernel)
          split at e2
          · exact absurd e2 (by decide +kernel)
          · exact absurd e2 (by decide +kernel)
      have hlim : ∀ m, m ∈ regs ++ [toldM kd] ∨ m = "made" → valV kvs2 (Sum.inr m) = some (.int (limM m : Nat)) := fun m hm => by
        rw [hkvs2, valV_put]
        unfold limM
        by_cases e : m = "made"
        · rw [if_pos (congrArg Sum.inr e), if_pos e]
          rfl
        · rw [if_neg fun z => e (Sum.inr.inj z), if_neg e]
          rcases hm with z | z
          · exact hval m z
          · exact absurd z e
      have gp3 := s3 _ _ gp1
      have hO3 := hO1.keep s3
      have hmk := readGo_marks _ _ _ hgo (fun s hs => nomatch hs)
      refine ⟨_, rfl, p, C, dx, _, _, rfl, gp3, TK.cl, TK.nO, hFl_o _ _ _, o, rows, xs, sts, tg, R, rfl, hO3, by omega, hR, hRl, fun W as ws G4 s4 gW hWA hset hwl => ?_⟩
      have hal : as.length = ws.length := Paired.length hWA
      refine ⟨W, rfl, ⟨_, SqL.of gW⟩, fun B nB => ?_⟩
      have sB := Same.new (o := .lst []) nB
      refine lc_list (K := K) (a := W) (xs := as.map V.ref) (fun i G5 => Same G4 G5 ∧ G5 B = some (.lst ((ws.take i).map fun w => optN (faultM sts w)))) ⟨sB, upd_same⟩ (fun i G5 _ ⟨e, _⟩ => SqL.of (e _ _ gW)) ?_ ?_
      · rintro i y G5 hi ⟨s5, gB5⟩
        obtain ⟨aw, haw, rfl⟩ : ∃ aw, as[i]? = some aw ∧ y = V.ref aw := by
          rw [List.getElem?_map] at hi
          cases e : as[i]? with
          | none => rw [e] at hi; cases hi
          | some z => rw [e] at hi; exact ⟨z, rfl, (Option.some.inj hi).symm⟩
        obtain ⟨wy, hwy, gaw⟩ := Paired.get hWA haw
        have hwR : wy ∈ R 0 := (hset wy).mp (List.mem_of_getElem? hwy)
        obtain ⟨w1, w2⟩ := hR.within _ 0 (Nat.le_refl _) (Nat.zero_le _) wy hwR
        have hil := (List.getElem?_eq_some_iff.mp haw).1
        refine ⟨rfl, ?_⟩
        unfold tYes
        refine iteT ?_
        refine ⟨_, rfl, p, C, dx, _, _, rfl, s5 _ _ (s4 _ _ gp3), TK.cl, TK.nO, hFl_o _ _ _, _, rfl, _, rfl, o, aw, D, rows, xs, sts, tg, wy, kvs2, limM, rfl, hO3.keep (s4.trans s5), s5 _ _ gaw, (fun n hn => by have := w2 n hn; omega), by omega, s5 _ _ (s4 _ _ gD3), (fun n hn m hm => ?_), fun G6 s6 => ?_⟩
        · refine hlim m (hmk _ ?_ m hm)
          have := w2 n hn
          rw [List.getD_eq_getElem?_getD, List.getElem?_eq_getElem (by omega)]
          exact List.getElem_mem _
        · have := s6 _ _ gB5
          refine ⟨_, this, small1000 (by rw [List.length_map, List.length_take]; omega), Same.write (s5.trans s6) nB, ?_⟩
          rw [take_more hwy, List.map_append]
          exact upd_same
      · rintro G5 ⟨s5, gB5⟩
        rw [List.length_map, hal, List.take_length] at gB5
        have e1 : (ws.map fun w => optN (faultM sts w)) = (ws.map (faultM sts)).map optN := by
          rw [List.map_map]
          rfl
        rw [e1] at gB5
        have bHf : ∀ G6, Same G5 G6 → But p H G6 := fun G6 s6 => bH.trans (But.same (s3.trans (s4.trans (s5.trans s6))))
        refine ⟨B, _, rfl, SqL.of gB5, by rw [List.length_map]; omega, fun hnil G6 s6 => ?_, fun m hm hmin d G6 s6 hd gd => ?_⟩
        · refine kOk (fun w hw => ?_) G6 (bHf G6 s6)
          cases e : faultM sts w with
          | none => rfl
          | some m =>
            have : m ∈ (ws.map (faultM sts)).filterMap id := List.mem_filterMap.mpr ⟨some m, List.mem_map.mpr ⟨w, (hset w).mpr hw, e⟩, rfl⟩
            rw [hnil] at this
            cases this
        · have inF : ∀ y, y ∈ (ws.map (faultM sts)).filterMap id ↔ ∃ w ∈ R 0, faultM sts w = some y := fun y => by
            constructor
            · intro h
              obtain ⟨o, ho, e⟩ := List.mem_filterMap.mp h
              obtain ⟨w, hw, e2⟩ := List.mem_map.mp ho
              have e3 : o = some y := e
              exact ⟨w, (hset w).mp hw, by rw [e2, e3]⟩
            · rintro ⟨w, hw, e⟩
              exact List.mem_filterMap.mpr ⟨some y, List.mem_map.mpr ⟨w, (hset w).mpr hw, e⟩, rfl⟩
          refine kBad m ((inF m).mp hm) (fun w hw y e => hmin y ((inF y).mpr ⟨w, hw, e⟩)) d G6 (bHf G6 s6) ?_ gd
          cases e : H d with
          | none => rfl
          | some u =>
            by_cases z : d = p
            · rw [z] at hd
              rw [(s3.trans (s4.trans s5)) _ _ gp1] at hd
              cases hd
            · have := (bH.trans (But.same (s3.trans (s4.trans s5)))) _ _ e z
              rw [hd] at this
              cases this
end
end K02

set_option Elab.async false
set_option linter.all false
set_option maxRecDepth 100000
set_option maxHeartbeats 8000000
/-! Texts as trees: lines, steps, targets, ways -/
namespace K02
open PySem L2
inductive Blk where
  | nil
  | leaf (s : Str) (r : Blk)
  | iff (t : Str) (a : Blk) (e : Bool) (b r : Blk)
namespace Blk
def lines : Blk → List Str
  | nil => []
  | leaf s r => s :: lines r
  | iff t a e b r => t :: (lines a ++ ((if e = true then ("else" : Str) :: lines b else []) ++ ("end" : Str) :: lines r))
def size : Blk → Nat
  | nil => 0
  | leaf _ r => size r + 1
  | iff _ a e b r => size a + (if e = true then size b + 1 else 0) + size r + 2
def ifs : Blk → Nat
  | nil => 0
  | leaf _ r => ifs r
  | iff _ a e b r => ifs a + (if e = true then ifs b else 0) + ifs r + 1
theorem size_lines : ∀ b : Blk, b.lines.length = b.size
  | nil => rfl
  | leaf s r => by
    show (lines r).length + 1 = _
    rw [size_lines r]
    rfl
  | iff t a e b r => by
    cases e with
    | true =>
      show (lines a ++ (("else" : Str) :: lines b ++ ("end" : Str) :: lines r)).length + 1 = size a + (size b + 1) + size r + 2
      rw [List.length_append, List.length_append, List.length_cons, List.length_cons, size_lines a, size_lines b, size_lines r]
      omega
    | false =>
      show (lines a ++ (("end" : Str) :: lines r)).length + 1 = size a + 0 + size r + 2
      rw [List.length_append, List.length_cons, size_lines a, size_lines r]
      omega
/-- what its lines do -/
def steps (f : Str → St) (g : Str → PyData) : Blk → List St
  | nil => []
  | leaf s r => f s :: steps f g r
  | iff t a e b r => .iff (g t) :: (steps f g a ++ ((if e = true then St.els :: steps f g b else []) ++ St.nd :: steps f g r))
theorem size_steps (f : Str → St) (g : Str → PyData) : ∀ b : Blk, (b.steps f g).length = b.size
  | nil => rfl
  | leaf s r => by
    show (steps f g r).length + 1 = _
    rw [size_steps f g r]
    rfl
  | iff t a e b r => by
    cases e with
    | true =>
      show (steps f g a ++ (St.els :: steps f g b ++ St.nd :: steps f g r)).length + 1 = size a + (size b + 1) + size r + 2
      rw [List.length_append, List.length_append, List.length_cons, List.length_cons, size_steps f g a, size_steps f g b, size_steps f g r]
      omega
    | false =>
      show (steps f g a ++ (St.nd :: steps f g r)).length + 1 = size a + 0 + size r + 2
      rw [List.length_append, List.length_cons, size_steps f g a, size_steps f g r]
      omega
/-- the place of the else (or of the end), the place of the end -/
def p1 (i : Nat) (a : Blk) : Nat := i + 1 + size a
def p2 (i : Nat) (a : Blk) (e : Bool) (b : Blk) : Nat := if e = true then p1 i a + 1 + size b else p1 i a
def setT : Blk → Nat → List V → List V
  | nil, _, tg => tg
  | leaf _ r, i, tg => setT r (i + 1) tg
  | iff _ a e b r, i, tg => setT r (p2 i a e b + 1) (if e = true then (setT b (p1 i a + 1) ((setT a (i + 1) tg).set i (.int ((p1 i a + 2 : Nat) : Int)))).set (p1 i a) (.int ((p2 i a e b + 2 : Nat) : Int)) else (setT a (i + 1) tg).set i (.int ((p2 i a e b + 2 : Nat) : Int)))
/-- leaves are no ifs, elses, ends -/
def Plain (f : Str → St) : Blk → Prop
  | nil => True
  | leaf s r => (∀ c, f s ≠ .iff c) ∧ f s ≠ .els ∧ f s ≠ .nd ∧ Plain f r
  | iff _ a e b r => Plain f a ∧ (e = true → Plain f b) ∧ Plain f r
theorem tg_steps (f : Str → St) (g : Str → PyData) : ∀ (b : Blk), Plain f b → ∀ (rest : List St) (i : Nat) (tg : List V) (wt : List Nat), tgGo (b.steps f g ++ rest) i tg wt = tgGo rest (i + b.size) (b.setT i tg) wt
  | nil, _, rest, i, tg, wt => rfl
  | leaf s r, hp, rest, i, tg, wt => by
    obtain ⟨h1, h2, h3, h4⟩ := hp
    have e : tgGo (f s :: (r.steps f g ++ rest)) i tg wt = tgGo (r.steps f g ++ rest) (i + 1) tg wt := by
      cases hs : f s with
      | fin x => rfl
      | set n sm sg k => rfl
      | iff c => exact absurd hs (h1 c)
      | els => exact absurd hs h2
      | nd => exact absurd hs h3
    show tgGo (f s :: (r.steps f g ++ rest)) i tg wt = tgGo rest (i + (r.size + 1)) (r.setT (i + 1) tg) wt
    rw [e, tg_steps f g r h4, show i + 1 + r.size = i + (r.size + 1) by omega]
  | iff t a e b r, hp, rest, i, tg, wt => by
    obtain ⟨h1, h2, h3⟩ := hp
    cases e with
    | true =>
      show tgGo (St.iff (g t) :: ((a.steps f g ++ (St.els :: b.steps f g ++ St.nd :: r.steps f g)) ++ rest)) i tg wt = _
      rw [List.append_assoc, List.append_assoc, List.cons_append]
      show tgGo (a.steps f g ++ (St.els :: (b.steps f g ++ (St.nd :: r.steps f g ++ rest)))) (i + 1) tg (wt ++ [i]) = _
      rw [tg_steps f g a h1]
      show (match (wt ++ [i]).getLast? with
        | none => none
        | some j => tgGo (b.steps f g ++ (St.nd :: r.steps f g ++ rest)) (i + 1 + a.size + 1) ((a.setT (i + 1) tg).set j (.int ((i + 1 + a.size + 2 : Nat) : Int))) ((wt ++ [i]).dropLast ++ [i + 1 + a.size])) = _
      rw [List.getLast?_concat, List.dropLast_concat]
      show tgGo (b.steps f g ++ (St.nd :: r.steps f g ++ rest)) (i + 1 + a.size + 1) ((a.setT (i + 1) tg).set i (.int ((i + 1 + a.size + 2 : Nat) : Int))) (wt ++ [i + 1 + a.size]) = _
      rw [tg_steps f g b (h2 rfl)]
      show (match (wt ++ [i + 1 + a.size]).getLast? with
        | none => none
        | some j => tgGo (r.steps f g ++ rest) (i + 1 + a.size + 1 + b.size + 1) ((b.setT (i + 1 + a.size + 1) ((a.setT (i + 1) tg).set i (.int ((i + 1 + a.size + 2 : Nat) : Int)))).set j (.int ((i + 1 + a.size + 1 + b.size + 2 : Nat) : Int))) (wt ++ [i + 1 + a.size]).dropLast) = _
      rw [List.getLast?_concat, List.dropLast_concat]
      show tgGo (r.steps f g ++ rest) (i + 1 + a.size + 1 + b.size + 1) _ wt = _
      rw [tg_steps f g r h3]
      have e1 : i + 1 + a.size + 1 + b.size + 1 + r.size = i + (iff t a true b r).size := by
        show _ = i + (a.size + (b.size + 1) + r.size + 2)
        omega
      rw [e1]
      rfl
    | false =>
      show tgGo (St.iff (g t) :: ((a.steps f g ++ (St.nd :: r.steps f g)) ++ rest)) i tg wt = _
      rw [List.append_assoc, List.cons_append]
      show tgGo (a.steps f g ++ (St.nd :: (r.steps f g ++ rest))) (i + 1) tg (wt ++ [i]) = _
      rw [tg_steps f g a h1]
      show (match (wt ++ [i]).getLast? with
        | none => none
        | some j => tgGo (r.steps f g ++ rest) (i + 1 + a.size + 1) ((a.setT (i + 1) tg).set j (.int ((i + 1 + a.size + 2 : Nat) : Int))) (wt ++ [i]).dropLast) = _
      rw [List.getLast?_concat, List.dropLast_concat]
      show tgGo (r.steps f g ++ rest) (i + 1 + a.size + 1) _ wt = _
      rw [tg_steps f g r h3]
      have e1 : i + 1 + a.size + 1 + r.size = i + (iff t a false b r).size := by
        show _ = i + (a.size + 0 + r.size + 2)
        omega
      rw [e1]
      rfl
theorem setT_len : ∀ (b : Blk) (i : Nat) (tg : List V), (b.setT i tg).length = tg.length
  | nil, _, _ => rfl
  | leaf s r, i, tg => setT_len r (i + 1) tg
  | iff t a e b r, i, tg => by
    cases e with
    | true =>
      show (setT r _ ((setT b _ ((setT a _ tg).set _ _)).set _ _)).length = _
      rw [setT_len r, List.length_set, setT_len b, List.length_set, setT_len a]
    | false =>
      show (setT r _ ((setT a _ tg).set _ _)).length = _
      rw [setT_len r, List.length_set, setT_len a]
theorem setT_out : ∀ (b : Blk) (i : Nat) (tg : List V) (l : Nat), l < i ∨ i + b.size ≤ l → (b.setT i tg)[l]? = tg[l]?
  | nil, _, _, _, _ => rfl
  | leaf s r, i, tg, l, h => setT_out r (i + 1) tg l (by
      have z : (leaf s r).size = r.size + 1 := rfl
      omega)
  | iff t a e b r, i, tg, l, h => by
    cases e with
    | true =>
      have z : (iff t a true b r).size = a.size + (b.size + 1) + r.size + 2 := rfl
      show (setT r (i + 1 + a.size + 1 + b.size + 1) ((setT b (i + 1 + a.size + 1) ((setT a (i + 1) tg).set i _)).set (i + 1 + a.size) _))[l]? = _
      rw [setT_out r _ _ l (by omega), List.getElem?_set_ne (by omega), setT_out b _ _ l (by omega), List.getElem?_set_ne (by omega), setT_out a _ _ l (by omega)]
    | false =>
      have z : (iff t a false b r).size = a.size + 0 + r.size + 2 := rfl
      show (setT r (i + 1 + a.size + 1) ((setT a (i + 1) tg).set i _))[l]? = _
      rw [setT_out r _ _ l (by omega), List.getElem?_set_ne (by omega), setT_out a _ _ l (by omega)]
/-- the targets in it are right -/
def TgOk : Blk → Nat → List V → Prop
  | nil, _, _ => True
  | leaf _ r, i, tg => TgOk r (i + 1) tg
  | iff _ a e b r, i, tg => tg[i]? = some (.int ((p1 i a + 2 : Nat) : Int)) ∧ (e = true → tg[p1 i a]? = some (.int ((p2 i a e b + 2 : Nat) : Int))) ∧ TgOk a (i + 1) tg ∧ (e = true → TgOk b (p1 i a + 1) tg) ∧ TgOk r (p2 i a e b + 1) tg
theorem TgOk.congr : ∀ (b : Blk) (i : Nat) (tg tg' : List V), (∀ l, i ≤ l → l < i + b.size → tg'[l]? = tg[l]?) → TgOk b i tg → TgOk b i tg'
  | nil, _, _, _, _, _ => trivial
  | leaf s r, i, tg, tg', h, k => TgOk.congr r (i + 1) tg tg' (fun l h1 h2 => h l (by omega) (by
      have z : (leaf s r).size = r.size + 1 := rfl
      omega)) k
  | iff t a e b r, i, tg, tg', h, ⟨k1, k2, k3, k4, k5⟩ => by
    cases e with
    | true =>
      have z : (iff t a true b r).size = a.size + (b.size + 1) + r.size + 2 := rfl
      refine ⟨by rw [h i (by omega) (by omega)]; exact k1, fun _ => by rw [h (p1 i a) (by unfold p1; omega) (by unfold p1; omega)]; exact k2 rfl, TgOk.congr a _ tg tg' (fun l h1 h2 => h l (by omega) (by omega)) k3, fun _ => TgOk.congr b _ tg tg' (fun l h1 h2 => h l (by unfold p1 at h1; omega) (by unfold p1 at h2; omega)) (k4 rfl), TgOk.congr r _ tg tg' (fun l h1 h2 => h l (by simp [p2, p1] at h1; omega) (by simp [p2, p1] at h2; omega)) k5⟩
    | false =>
      have z : (iff t a false b r).size = a.size + 0 + r.size + 2 := rfl
      refine ⟨by rw [h i (by omega) (by omega)]; exact k1, (fun z => nomatch z), TgOk.congr a _ tg tg' (fun l h1 h2 => h l (by omega) (by omega)) k3, (fun z => nomatch z), TgOk.congr r _ tg tg' (fun l h1 h2 => h l (by simp [p2, p1] at h1; omega) (by simp [p2, p1] at h2; omega)) k5⟩
theorem setT_ok : ∀ (b : Blk) (i : Nat) (tg : List V), i + b.size ≤ tg.length → TgOk b i (b.setT i tg)
  | nil, _, _, _ => trivial
  | leaf s r, i, tg, h => setT_ok r (i + 1) tg (by
      have z : (leaf s r).size = r.size + 1 := rfl
      omega)
  | iff t a e b r, i, tg, h => by
    cases e with
    | true =>
      have z : (iff t a true b r).size = a.size + (b.size + 1) + r.size + 2 := rfl
      have e1 : p1 i a = i + 1 + a.size := rfl
      have e2 : p2 i a true b = i + 1 + a.size + 1 + b.size := rfl
      have out : ∀ l, l < i + 1 + a.size + 1 + b.size + 1 → ((iff t a true b r).setT i tg)[l]? = ((setT b (p1 i a + 1) ((setT a (i + 1) tg).set i (.int ((p1 i a + 2 : Nat) : Int)))).set (p1 i a) (.int ((p2 i a true b + 2 : Nat) : Int)))[l]? := fun l hl => setT_out r _ _ l (.inl (by rw [e2]; omega))
      refine ⟨?_, fun _ => ?_, ?_, fun _ => ?_, ?_⟩
      · rw [out i (by omega), List.getElem?_set_ne (by omega), setT_out b _ _ i (by omega), List.getElem?_set_self (by rw [setT_len a]; omega)]
      · rw [out _ (by omega), List.getElem?_set_self (by rw [setT_len b, List.length_set, setT_len a]; omega)]
      · refine TgOk.congr a (i + 1) (setT a (i + 1) tg) _ (fun l h1 h2 => ?_) (setT_ok a (i + 1) tg (by omega))
        rw [out l (by omega), List.getElem?_set_ne (by omega), setT_out b _ _ l (by omega), List.getElem?_set_ne (by omega)]
      · refine TgOk.congr b (p1 i a + 1) (setT b (p1 i a + 1) ((setT a (i + 1) tg).set i (.int ((p1 i a + 2 : Nat) : Int)))) _ (fun l h1 h2 => ?_) (setT_ok b _ _ (by rw [List.length_set, setT_len a]; omega))
        rw [out l (by omega), List.getElem?_set_ne (by omega)]
      · exact setT_ok r _ _ (by rw [if_pos rfl, List.length_set, setT_len b, List.length_set, setT_len a, e2]; omega)
    | false =>
      have z : (iff t a false b r).size = a.size + 0 + r.size + 2 := rfl
      have e1 : p1 i a = i + 1 + a.size := rfl
      have e2 : p2 i a false b = i + 1 + a.size := rfl
      have out : ∀ l, l < i + 1 + a.size + 1 → ((iff t a false b r).setT i tg)[l]? = ((setT a (i + 1) tg).set i (.int ((p2 i a false b + 2 : Nat) : Int)))[l]? := fun l hl => setT_out r _ _ l (.inl (by rw [e2]; omega))
      refine ⟨?_, (fun z => nomatch z), ?_, (fun z => nomatch z), ?_⟩
      · rw [out i (by omega), List.getElem?_set_self (by rw [setT_len a]; omega)]
        rfl
      · refine TgOk.congr a (i + 1) (setT a (i + 1) tg) _ (fun l h1 h2 => ?_) (setT_ok a (i + 1) tg (by omega))
        rw [out l (by omega), List.getElem?_set_ne (by omega)]
      · exact setT_ok r _ _ (by rw [if_neg Bool.false_ne_true, List.length_set, setT_len a, e2]; omega)
end Blk
end K02

set_option Elab.async false
set_option linter.all false
set_option maxRecDepth 100000
set_option maxHeartbeats 8000000
/-! Texts as trees, b: the ways -/
namespace K02
open PySem L2
namespace Blk
def isFin : St → Bool
  | .fin _ => true
  | _ => false
/-- the ways through it, K what comes behind -/
def ways (f : Str → St) : Blk → Nat → List (List Nat) → List (List Nat)
  | nil, _, K => K
  | leaf s r, i, K => if isFin (f s) = true then [[i + 1]] else (ways f r (i + 1) K).map ((i + 1) :: ·)
  | iff _ a e b r, i, K => (ways f a (i + 1) (ways f r (p2 i a e b + 1) K)).map ((i + 1) :: ·) ++ (if e = true then ways f b (p1 i a + 1) (ways f r (p2 i a e b + 1) K) else ways f r (p2 i a e b + 1) K).map ((i + 1) :: ·)
/-- the ways from a place within on -/
def rAt (f : Str → St) : Blk → Nat → List (List Nat) → Nat → List (List Nat)
  | nil, _, K, _ => K
  | leaf s r, i, K, l => if l = i then ways f (leaf s r) i K else rAt f r (i + 1) K l
  | iff t a e b r, i, K, l => if l = i then ways f (iff t a e b r) i K else if l ≤ p1 i a then rAt f a (i + 1) (ways f r (p2 i a e b + 1) K) l else if l ≤ p2 i a e b then rAt f b (p1 i a + 1) (ways f r (p2 i a e b + 1) K) l else rAt f r (p2 i a e b + 1) K l
theorem rAt_head (f : Str → St) : ∀ (b : Blk) (i : Nat) (K : List (List Nat)), rAt f b i K i = ways f b i K
  | nil, _, _ => rfl
  | leaf s r, i, K => if_pos rfl
  | iff t a e b r, i, K => if_pos rfl
theorem rAt_end (f : Str → St) : ∀ (b : Blk) (i : Nat) (K : List (List Nat)), rAt f b i K (i + b.size) = K
  | nil, _, _ => rfl
  | leaf s r, i, K => by
    have z : (leaf s r).size = r.size + 1 := rfl
    have h := rAt_end f r (i + 1) K
    show (if i + (leaf s r).size = i then _ else rAt f r (i + 1) K (i + (leaf s r).size)) = K
    rw [if_neg (by omega), z, show i + (r.size + 1) = i + 1 + r.size by omega]
    exact h
  | iff t a e b r, i, K => by
    have h := rAt_end f r (p2 i a e b + 1) K
    have e2 : i + (iff t a e b r).size = p2 i a e b + 1 + r.size := by
      cases e with
      | true =>
        show i + (a.size + (b.size + 1) + r.size + 2) = i + 1 + a.size + 1 + b.size + 1 + r.size
        omega
      | false =>
        show i + (a.size + 0 + r.size + 2) = i + 1 + a.size + 1 + r.size
        omega
    have e3 : p1 i a ≤ p2 i a e b := by
      cases e with
      | true => show p1 i a ≤ p1 i a + 1 + b.size; omega
      | false => exact Nat.le_refl _
    have e4 : i < p1 i a := by unfold p1; omega
    show (if i + (iff t a e b r).size = i then _ else if i + (iff t a e b r).size ≤ p1 i a then _ else if i + (iff t a e b r).size ≤ p2 i a e b then _ else rAt f r (p2 i a e b + 1) K (i + (iff t a e b r).size)) = K
    rw [if_neg (by omega), if_neg (by omega), if_neg (by omega), e2]
    exact h
/-- what is asked of a place -/
structure EqAt (sts : List St) (tg : List V) (n : Nat) (R : Nat → List (List Nat)) (l : Nat) : Prop where
  els : sts[l]? = some .els → ∃ t : Nat, tg[l]? = some (.int ((t + 1 : Nat) : Int)) ∧ l < t ∧ t ≤ n ∧ R l = R t
  fin : ∀ x, sts[l]? = some (.fin x) → R l = [[l + 1]]
  nd : sts[l]? = some .nd → R l = R (l + 1)
  set : ∀ n sm sg k, sts[l]? = some (.set n sm sg k) → R l = (R (l + 1)).map ((l + 1) :: ·)
  iff : ∀ c, sts[l]? = some (.iff c) → ∃ t : Nat, tg[l]? = some (.int ((t + 1 : Nat) : Int)) ∧ l < t ∧ t ≤ n ∧ R l = (R (l + 1)).map ((l + 1) :: ·) ++ (R t).map ((l + 1) :: ·)
theorem eqs (f : Str → St) (g : Str → PyData) {sts : List St} {tg : List V} {n : Nat} {R : Nat → List (List Nat)} : ∀ (b : Blk) (i : Nat) (K : List (List Nat)), Plain f b → (∀ l, i ≤ l → l ≤ i + b.size → R l = rAt f b i K l) → (∀ j, j < b.size → sts[i + j]? = (b.steps f g)[j]?) → TgOk b i tg → i + b.size ≤ n →
    ∀ l, i ≤ l → l < i + b.size → EqAt sts tg n R l
  | nil, i, K, _, _, _, _, _, l, h1, h2 => by
    have z : nil.size = 0 := rfl
    omega
  | leaf s r, i, K, hp, hR, hs, ht, hn, l, h1, h2 => by
    have z : (leaf s r).size = r.size + 1 := rfl
    obtain ⟨q1, q2, q3, q4⟩ := hp
    have hr : ∀ l, i + 1 ≤ l → l ≤ i + 1 + r.size → R l = rAt f r (i + 1) K l := fun l a1 a2 => by
      rw [hR l (by omega) (by omega)]
      exact if_neg (by omega)
    by_cases hl : l = i
    · subst hl
      have est : sts[l]? = some (f s) := hs 0 (by omega)
      have eR : R l = if isFin (f s) = true then [[l + 1]] else (R (l + 1)).map ((l + 1) :: ·) := by
        rw [hR l (Nat.le_refl _) (by omega), hr (l + 1) (Nat.le_refl _) (by omega), rAt_head, rAt_head]
        rfl
      refine ⟨fun e => ?_, fun x e => ?_, fun e => ?_, fun n sm sg k e => ?_, fun c e => ?_⟩
      · rw [est] at e
        exact absurd (Option.some.inj e) q2
      · rw [est] at e
        rw [eR, Option.some.inj e]
        rfl
      · rw [est] at e
        exact absurd (Option.some.inj e) q3
      · rw [est] at e
        rw [eR, Option.some.inj e]
        rfl
      · rw [est] at e
        exact absurd (Option.some.inj e) (q1 c)
    · exact eqs f g r (i + 1) K q4 hr (fun j hj => by
        have := hs (j + 1) (by omega)
        rw [show i + (j + 1) = i + 1 + j by omega] at this
        exact this) ht (by omega) l (by omega) (by omega)
  | iff t a e b r, i, K, hp, hR, hs, ht, hn, l, h1, h2 => by
    obtain ⟨q1, q2, q3⟩ := hp
    obtain ⟨t1, t2, t3, t4, t5⟩ := ht
    have e1 : p1 i a = i + 1 + a.size := rfl
    have hlen : (iff t a e b r).size = p2 i a e b - i + 1 + r.size := by
      cases e with
      | true =>
        show a.size + (b.size + 1) + r.size + 2 = (i + 1 + a.size + 1 + b.size) - i + 1 + r.size
        omega
      | false =>
        show a.size + 0 + r.size + 2 = (i + 1 + a.size) - i + 1 + r.size
        omega
    have e3 : p1 i a ≤ p2 i a e b := by
      cases e with
      | true => show p1 i a ≤ p1 i a + 1 + b.size; omega
      | false => exact Nat.le_refl _
    obtain ⟨Kr, hKr⟩ : ∃ Kr, Kr = ways f r (p2 i a e b + 1) K := ⟨_, rfl⟩
    have hr : ∀ l, p2 i a e b + 1 ≤ l → l ≤ p2 i a e b + 1 + r.size → R l = rAt f r (p2 i a e b + 1) K l := fun l a1 a2 => by
      rw [hR l (by omega) (by omega)]
      show (if l = i then _ else if l ≤ p1 i a then _ else if l ≤ p2 i a e b then _ else rAt f r (p2 i a e b + 1) K l) = _
      rw [if_neg (by omega), if_neg (by omega), if_neg (by omega)]
    have ha : ∀ l, i + 1 ≤ l → l ≤ i + 1 + a.size → R l = rAt f a (i + 1) Kr l := fun l a1 a2 => by
      rw [hR l (by omega) (by omega), hKr]
      show (if l = i then _ else if l ≤ p1 i a then rAt f a (i + 1) (ways f r (p2 i a e b + 1) K) l else _) = _
      rw [if_neg (by omega), if_pos (by omega)]
    have hb : e = true → ∀ l, p1 i a + 1 ≤ l → l ≤ p1 i a + 1 + b.size → R l = rAt f b (p1 i a + 1) Kr l := fun he l a1 a2 => by
      have e2 : p2 i a e b = p1 i a + 1 + b.size := by rw [he]; rfl
      rw [hR l (by omega) (by omega), hKr]
      show (if l = i then _ else if l ≤ p1 i a then _ else if l ≤ p2 i a e b then rAt f b (p1 i a + 1) (ways f r (p2 i a e b + 1) K) l else _) = _
      rw [if_neg (by omega), if_neg (by omega), if_pos (by omega)]
    have Rr : R (p2 i a e b + 1) = Kr := by
      rw [hr _ (Nat.le_refl _) (by omega), rAt_head, hKr]
    have Ra : R (i + 1) = ways f a (i + 1) Kr := by
      rw [ha _ (Nat.le_refl _) (by omega), rAt_head]
    have Rae : R (p1 i a) = Kr := by
      rw [ha _ (by omega) (by omega)]
      exact rAt_end f a (i + 1) Kr
    have Ri : R i = (ways f a (i + 1) Kr).map ((i + 1) :: ·) ++ (if e = true then ways f b (p1 i a + 1) Kr else Kr).map ((i + 1) :: ·) := by
      rw [hR i (Nat.le_refl _) (by omega), rAt_head, hKr]
      rfl
    have st0 : sts[i]? = some (.iff (g t)) := hs 0 (by omega)
    have stA : ∀ j, j < a.size → sts[i + 1 + j]? = (a.steps f g)[j]? := fun j hj => by
      have h := hs (j + 1) (by omega)
      rw [show i + (j + 1) = i + 1 + j by omega] at h
      rw [h]
      show (a.steps f g ++ _)[j]? = _
      rw [List.getElem?_append_left (by rw [size_steps]; exact hj)]
    have hlast : ∀ (X : List St), (∀ j, p1 i a - i + j < (iff t a e b r).size → sts[p1 i a + j]? = X[j]?) → X = (if e = true then St.els :: b.steps f g else []) ++ St.nd :: r.steps f g → (e = true → sts[p1 i a]? = some .els ∧ (∀ j, j < b.size → sts[p1 i a + 1 + j]? = (b.steps f g)[j]?)) ∧ sts[p2 i a e b]? = some .nd ∧ (∀ j, j < r.size → sts[p2 i a e b + 1 + j]? = (r.steps f g)[j]?) := fun X hX eX => by
      cases e with
      | true =>
        have e2 : p2 i a true b = p1 i a + 1 + b.size := rfl
        have eX' : X = St.els :: (b.steps f g ++ St.nd :: r.steps f g) := eX
        refine ⟨fun _ => ⟨?_, fun j hj => ?_⟩, ?_, fun j hj => ?_⟩
        · rw [show p1 i a = p1 i a + 0 from rfl, hX 0 (by omega), eX']
          rfl
        · rw [show p1 i a + 1 + j = p1 i a + (j + 1) by omega, hX (j + 1) (by omega), eX', List.getElem?_cons_succ, List.getElem?_append_left (by rw [size_steps]; exact hj)]
        · rw [e2, show p1 i a + 1 + b.size = p1 i a + (b.size + 1) by omega, hX _ (by omega), eX', List.getElem?_cons_succ, List.getElem?_append_right (by rw [size_steps]; exact Nat.le_refl _), size_steps, Nat.sub_self]
          rfl
        · rw [e2, show p1 i a + 1 + b.size + 1 + j = p1 i a + (b.size + (j + 1) + 1) by omega, hX _ (by omega), eX', List.getElem?_cons_succ, List.getElem?_append_right (by rw [size_steps]; omega), size_steps, show b.size + (j + 1) - b.size = j + 1 by omega]
          rfl
      | false =>
        have e2 : p2 i a false b = p1 i a := rfl
        have eX' : X = St.nd :: r.steps f g := eX
        refine ⟨(fun z => nomatch z), ?_, fun j hj => ?_⟩
        · rw [e2, show p1 i a = p1 i a + 0 from rfl, hX 0 (by omega), eX']
          rfl
        · rw [e2, show p1 i a + 1 + j = p1 i a + (j + 1) by omega, hX _ (by omega), eX']
          rfl
    obtain ⟨sb, se, sr⟩ := hlast ((if e = true then St.els :: b.steps f g else []) ++ St.nd :: r.steps f g) (fun j hj => by
      have h := hs (p1 i a - i + j) (by omega)
      rw [show i + (p1 i a - i + j) = p1 i a + j by omega] at h
      rw [h, show p1 i a - i + j = (a.size + j) + 1 by omega]
      show (a.steps f g ++ _)[a.size + j]? = _
      rw [List.getElem?_append_right (by rw [size_steps]; omega), size_steps, show a.size + j - a.size = j by omega]) rfl
    by_cases c0 : l = i
    · subst c0
      refine ⟨fun z => ?_, fun x z => ?_, fun z => ?_, fun n sm sg k z => ?_, fun c z => ?_⟩
      · rw [st0] at z; cases z
      · rw [st0] at z; cases z
      · rw [st0] at z; cases z
      · rw [st0] at z; cases z
      · refine ⟨p1 l a + 1, t1, by omega, by omega, ?_⟩
        rw [Ri, Ra]
        congr 1
        cases e with
        | true =>
          have hb1 := hb rfl (p1 l a + 1) (Nat.le_refl _) (by omega)
          rw [hb1, rAt_head]
          rfl
        | false =>
          have : R (p1 l a + 1) = Kr := Rr
          rw [this]
          rfl
    by_cases c1 : l < p1 i a
    · exact eqs f g a (i + 1) Kr q1 ha stA t3 (by omega) l (by omega) (by omega)
    by_cases c2 : p2 i a e b < l
    · exact eqs f g r (p2 i a e b + 1) K q3 hr sr t5 (by omega) l (by omega) (by omega)
    have ndc : l = p2 i a e b → EqAt sts tg n R l := fun hl => by
      have est : sts[l]? = some .nd := by rw [hl]; exact se
      have Rl : R (p2 i a e b) = Kr := by
        cases e with
        | true =>
          rw [hb rfl _ (by show p1 i a + 1 ≤ p1 i a + 1 + b.size; omega) (by show p1 i a + 1 + b.size ≤ _; omega)]
          exact rAt_end f b (p1 i a + 1) Kr
        | false => exact Rae
      refine ⟨fun z => ?_, fun x z => ?_, fun z => ?_, fun n sm sg k z => ?_, fun c z => ?_⟩
      · rw [est] at z; cases z
      · rw [est] at z; cases z
      · rw [hl, Rl, Rr]
      · rw [est] at z; cases z
      · rw [est] at z; cases z
    by_cases c3 : l = p2 i a e b
    · exact ndc c3
    cases e with
    | false =>
      have e2 : p2 i a false b = p1 i a := rfl
      omega
    | true =>
      have e2 : p2 i a true b = p1 i a + 1 + b.size := rfl
      obtain ⟨s1, s2⟩ := sb rfl
      by_cases c4 : l = p1 i a
      · refine ⟨fun z => ⟨p2 i a true b + 1, ?_, by omega, by omega, ?_⟩, fun x z => ?_, fun z => ?_, fun n sm sg k z => ?_, fun c z => ?_⟩
        · rw [c4]; exact t2 rfl
        · rw [c4, Rae, Rr]
        all_goals
        · rw [c4, s1] at z
          cases z
      · exact eqs f g b (p1 i a + 1) Kr (q2 rfl) (hb rfl) s2 (t4 rfl) (by omega) l (by omega) (by omega)
/-- the whole text -/
def rAll (f : Str → St) (b : Blk) (l : Nat) : List (List Nat) := if l ≤ b.size then rAt f b 0 [[]] l else [[]]
theorem runEq (f : Str → St) (g : Str → PyData) (b : Blk) (hp : Plain f b) : RunEq (b.steps f g) (b.setT 0 (List.replicate b.size V.non)) (rAll f b) := by
  have hR : ∀ l, 0 ≤ l → l ≤ 0 + b.size → rAll f b l = rAt f b 0 [[]] l := fun l _ h => if_pos (by omega)
  have E := eqs f g (sts := b.steps f g) (tg := b.setT 0 (List.replicate b.size V.non)) (n := b.size) b 0 [[]] hp hR (fun j _ => by rw [Nat.zero_add]) (setT_ok b 0 _ (by rw [List.length_replicate]; omega)) (by omega)
  have inn : ∀ {l : Nat} {x : St}, (b.steps f g)[l]? = some x → l < 0 + b.size := fun {l x} h => by
    have := (List.getElem?_eq_some_iff.mp h).1
    rw [size_steps] at this
    omega
  refine ⟨fun l h => ?_, fun l h => ?_, fun l x h => (E l (Nat.zero_le _) (inn h)).fin x h, fun l h => (E l (Nat.zero_le _) (inn h)).nd h, fun l n sm sg k h => (E l (Nat.zero_le _) (inn h)).set n sm sg k h, fun l c h => ?_⟩
  · rw [size_steps] at h
    unfold rAll
    by_cases e : l ≤ b.size
    · rw [if_pos e]
      have e2 : l = 0 + b.size := by omega
      rw [e2]
      exact rAt_end f b 0 [[]]
    · rw [if_neg e]
  · rw [size_steps]
    exact (E l (Nat.zero_le _) (inn h)).els h
  · rw [size_steps]
    exact (E l (Nat.zero_le _) (inn h)).iff c h
theorem rAll_zero (f : Str → St) (b : Blk) : rAll f b 0 = ways f b 0 [[]] := by
  unfold rAll
  rw [if_pos (Nat.zero_le _)]
  exact rAt_head f b 0 [[]]
theorem tg_all (f : Str → St) (g : Str → PyData) (b : Blk) (hp : Plain f b) : tgM (b.steps f g) = some (b.setT 0 (List.replicate b.size V.non)) := by
  unfold tgM
  have h := tg_steps f g b hp [] 0 (List.replicate (b.steps f g).length V.non) []
  rw [List.append_nil] at h
  rw [h, size_steps]
  rfl
theorem ways_len (f : Str → St) : ∀ (b : Blk) (i : Nat) (K : List (List Nat)), 1 ≤ K.length → 1 ≤ (ways f b i K).length ∧ (ways f b i K).length ≤ 2 ^ b.ifs * K.length
  | nil, _, K, h => ⟨h, by show K.length ≤ 2 ^ 0 * K.length; omega⟩
  | leaf s r, i, K, h => by
    obtain ⟨h1, h2⟩ := ways_len f r (i + 1) K h
    show 1 ≤ (if isFin (f s) = true then [[i + 1]] else (ways f r (i + 1) K).map ((i + 1) :: ·)).length ∧ (if isFin (f s) = true then [[i + 1]] else (ways f r (i + 1) K).map ((i + 1) :: ·)).length ≤ 2 ^ r.ifs * K.length
    by_cases e : isFin (f s) = true
    · rw [if_pos e]
      exact ⟨Nat.le_refl _, by
        show 1 ≤ _
        omega⟩
    · rw [if_neg e, List.length_map]
      exact ⟨h1, h2⟩
  | iff t a e b r, i, K, h => by
    obtain ⟨h1, h2⟩ := ways_len f r (p2 i a e b + 1) K h
    obtain ⟨h3, h4⟩ := ways_len f a (i + 1) (ways f r (p2 i a e b + 1) K) h1
    obtain ⟨h5, h6⟩ := ways_len f b (p1 i a + 1) (ways f r (p2 i a e b + 1) K) h1
    have hm : ∀ x y : Nat, x ≤ y → ∀ z, 2 ^ x * z ≤ 2 ^ y * z := fun x y hxy z => Nat.mul_le_mul_right z (Nat.pow_le_pow_right (by decide) hxy)
    have key : ∀ X : List (List Nat), X.length ≤ 2 ^ (if e = true then b.ifs else 0) * (ways f r (p2 i a e b + 1) K).length → ((ways f a (i + 1) (ways f r (p2 i a e b + 1) K)).map ((i + 1) :: ·) ++ X.map ((i + 1) :: ·)).length ≤ 2 ^ (iff t a e b r).ifs * K.length := fun X hX => by
      rw [List.length_append, List.length_map, List.length_map]
      have hi : (iff t a e b r).ifs = a.ifs + (if e = true then b.ifs else 0) + r.ifs + 1 := rfl
      obtain ⟨u, hu⟩ : ∃ u, u = (if e = true then b.ifs else 0) := ⟨_, rfl⟩
      rw [← hu] at hX hi
      have a1 : (ways f a (i + 1) (ways f r (p2 i a e b + 1) K)).length ≤ 2 ^ (a.ifs + u) * (ways f r (p2 i a e b + 1) K).length := Nat.le_trans h4 (hm _ _ (by omega) _)
      have a2 : X.length ≤ 2 ^ (a.ifs + u) * (ways f r (p2 i a e b + 1) K).length := Nat.le_trans hX (hm _ _ (by omega) _)
      have a3 : 2 ^ (a.ifs + u) * (ways f r (p2 i a e b + 1) K).length ≤ 2 ^ (a.ifs + u) * (2 ^ r.ifs * K.length) := Nat.mul_le_mul_left _ h2
      have a4 : 2 ^ (iff t a e b r).ifs * K.length = 2 * (2 ^ (a.ifs + u) * (2 ^ r.ifs * K.length)) := by
        rw [hi, Nat.pow_succ, Nat.pow_add, ← Nat.mul_assoc (2 ^ (a.ifs + u)), Nat.mul_comm _ 2, Nat.mul_assoc 2]
      omega
    show 1 ≤ ((ways f a (i + 1) (ways f r (p2 i a e b + 1) K)).map ((i + 1) :: ·) ++ (if e = true then ways f b (p1 i a + 1) (ways f r (p2 i a e b + 1) K) else ways f r (p2 i a e b + 1) K).map ((i + 1) :: ·)).length ∧ _
    refine ⟨by rw [List.length_append, List.length_map]; omega, key _ ?_⟩
    cases e with
    | true => exact h6
    | false => show _ ≤ 2 ^ 0 * _; rw [Nat.pow_zero, Nat.one_mul]; exact Nat.le_refl _
end Blk
end K02

set_option Elab.async false
set_option linter.all false
set_option maxRecDepth 100000
set_option maxHeartbeats 8000000
/-! k02, the program: a text with a wrong line refused -/
namespace K02
open PySem L2
/-- the number of the first row that is wrong, behind i rows -/
def badGo (kd : Str) : List Str → Nat → List Str → Option Nat
  | [], i, nest => if nest = [] then none else some (i + 1)
  | r :: rs, i, nest => match readS kd (Txt.split r " ") nest with
    | none => some (i + 1)
    | some (_, n2) => badGo kd rs (i + 1) n2
abbrev sBadI : Stmt := inClass (top 3) 0
/-- the facts of BadLine -/
structure TxtL (P : Program) (K : PySem.W.Frag) (mg : Str → Option Value) (CB fI cc cda : Addr) : Prop where
  g : mg "BadLine" = some (.ref CB)
  t : ErrA.ErrTxt P K CB fI cc cda "BadLine.__init__" sBadI
  b : ErrA.ErrBody P sBadI "line" []
  n : ∀ g ∈ [("line" : Str)], PySem.W.findIn K (.ref CB) g = some none
def spOutlBad (K : PySem.W.Frag) (CB fS fP : Addr) : Sp := fun vs H _ E => ∃ (x kd : Str) (ml mi : Int) (rows : List Str) (n : Nat), vs = [.str x, .str kd, .ref fS, .ref fP, .int ml, .int mi, .non] ∧ kd ∈ kindsL ∧ x.length + 2 ≤ sizeLine ∧ linesM x = rows ∧
  (rows.length : Int) ≤ ml ∧ rows.length ≤ 1000 ∧ (∀ r ∈ rows, RowOk r) ∧ badGo kd rows 0 [] = some n ∧
  ∀ d H', Same H H' → H d = none → H' d = some (.xd [("line", .int (n : Nat))]) → E (.ref CB) (some d) H'
section
variable {P : Program} {w : World} {K : PySem.W.Frag} {mg : Str → Option Value} {base : Heap}
theorem ok_outlBad {f fL fR fS fP CB fI cc cda : Addr} {fd fdL fdR : FuncData} (F : FunD K "read_outline" "read_outline" (defArgs sOutl) (defBody sOutl) (defScope sOutl) [.non] [] f fd) (T : TxtN mg) (R : TxtL P K mg CB fI cc cda)
    (GL : FnOk P w K mg base CX0 1 fL fdL ["text"] spLines) (kL : PySem.W.keepIn K (.ref fL) = true) (bL : Binds K fdL ["text"] []) (gL : mg "lines_of" = some (.ref fL))
    (GR : FnOk P w K mg base CX0 6 fR fdR ["words", "kind", "step_in", "part_in", "loop_in", "nest"] (spRead K fS fP)) (kR : PySem.W.keepIn K (.ref fR) = true) (bR : Binds K fdR ["words", "kind", "step_in", "part_in", "loop_in", "nest"] []) (gR : mg "read_line" = some (.ref fR)) :
    FnOk P w K mg base (L2.CX P w) 7 f fd ["text", "kind", "step_in", "part_in", "most_lines", "most_ifs", "loop_in"] (spOutlBad K CB fS fP) := by
  refine F.ok scOutl (fun vs H Q E h => ?_) (fun cdv A outer s H vs Q E hr h => ?_)
  · obtain ⟨x, kd, ml, mi, rows, n, rfl, _⟩ := h
    rfl
  · obtain ⟨x, kd, ml, mi, rows, n, rfl, hkd, hx, hrows, hml, hn, hok, hgo0, k⟩ := h
    have hr1 : Room 1 _ := hr.mono (by decide)
    have hr3 : Room 3 _ := hr.mono (by decide)
    have hr6 : Room 6 _ := hr.mono (by decide)
    refine ⟨_, pss_cons (ps_set (i := 7) scOutl.nd rfl (.inl rfl) (pe_call GL hr1 rfl gL kL bL .nil pass0 (pa_cons (pv 0) pa_nil)))
      (pss_cons (ps_if (pt_cmpR op_gt (pe_callB call_len_seq (by rfl) T.len PySem.boot_len (pa_cons (pv 7) pa_nil)) (pv 4) (nomark _)) (pss_one PS.ghost) pss_nil)
      (pss_cons (ps_set (i := 8) scOutl.nd rfl (.inl rfl) (pe_lst pa_nil))
      (pss_cons (ps_set (i := 9) scOutl.nd rfl (.inl rfl) (pe_lst pa_nil))
      (pss_cons (ps_for PassesOwn.leaving rfl (pi_list (pv 7)) (pg_name (i := 10) scOutl.nd rfl (Or.inl rfl))
        (pss_cons (ps_set (i := 11) scOutl.nd rfl (.inl rfl) (pe_call GR hr6 rfl gR kR bR .nil pass0 (pa_cons (pe_split (pv 10) pe_str) (pa_cons (pv 1) (pa_cons (pv 2) (pa_cons (pv 3) (pa_cons (pv 6) (pa_cons (pv 9) pa_nil))))))))
        (pss_cons (ps_if (pt_cmpR op_isN (pv 11) pe_non (nomark _)) (pss_one (ps_raiseErr rfl R.t R.b R.n hr1 R.g (takes_of rfl rfl rfl rfl) (pa_cons (pe_op op_add (pe_callB call_len_seq (by rfl) T.len PySem.boot_len (pa_cons (pv 8) pa_nil)) pe_int) pa_nil))) pss_nil)
        (pss_one (ps_expr (pe_bm PySem.F.plainAttrs_list PySem.F.slot_list_append PySem.F.type_list_append mt_append (pv 8) (pa_cons (pv 11) pa_nil)))))))
      (pss_cons (ps_if (pt_truth (pv 9) (by intro _; rfl)) (pss_one (ps_raiseErr rfl R.t R.b R.n hr1 R.g (takes_of rfl rfl rfl rfl) (pa_cons (pe_op op_add (pe_callB call_len_seq (by rfl) T.len PySem.boot_len (pa_cons (pv 8) pa_nil)) pe_int) pa_nil))) pss_nil)
      PSs.ghost))))), ?_⟩
    refine ⟨_, rfl, x, rfl, hx, fun R0 H1 s1 hR => ?_⟩
    rw [hrows] at hR
    refine ⟨_, rfl, R0, _, rfl, .inl (SqL.of hR), _, rfl, _, _, rfl, rfl, _, rfl, ?_⟩
    refine ifF3 (decide_eq_false (by rw [List.length_map]; omega)) ?_
    refine ⟨(by show 0 ≤ sizeLine; decide), fun S0 nS => ?_⟩
    have s2 := s1.trans (Same.new (o := .lst []) nS)
    refine ⟨(by show 0 ≤ sizeLine; decide), fun N0 nN => ?_⟩
    have s3 := s2.trans (Same.new (o := .lst []) nN)
    have HS : H S0 = none := none_of s1 nS
    have HN : H N0 = none := none_of s2 nN
    have SN : S0 ≠ N0 := ne_of_none upd_same nN
    have RS : R0 ≠ S0 := ne_of_none hR nS
    have hR3 : (upd (upd H1 S0 (.lst [])) N0 (.lst [])) R0 = some (.lst (rows.map V.str)) := Same.new nN _ _ (Same.new nS _ _ hR)
    have RN : R0 ≠ N0 := ne_of_none (Same.new nS _ _ hR) nN
    refine ⟨_, rfl, R0, rfl, ⟨_, SqL.of hR3⟩, for_list (K := K) (a := R0) (xs := rows.map V.str) (fun i σ G => ∃ nest ys v9 v10, σ = [some (.str x), some (.str kd), some (.ref fS), some (.ref fP), some (.int ml), some (.int mi), some .non, some (.ref R0), some (.ref S0), some (.ref N0), v9, v10, none] ∧
      Same H G ∧ G R0 = some (.lst (rows.map V.str)) ∧ G S0 = some (.lst ys) ∧ G N0 = some (.lst (nest.map V.str)) ∧ ys.length = i ∧ nest.length ≤ i ∧ NoWh nest ∧ badGo kd (rows.drop i) i nest = some n)
      ⟨[], [], none, none, rfl, s3, hR3, by rw [upd_ne SN]; exact upd_same, upd_same, rfl, Nat.le_refl _, NoWh.nil, hgo0⟩ (fun i σ G _ ⟨_, _, _, _, _, _, e, _⟩ => SqL.of e) ?_ ?_⟩
    · rintro i y σ G hi ⟨nest, ys, v9, v10, rfl, hG, gR', gS, gN, hyl, hnl, hnw, hgo⟩
      obtain ⟨r, hri, rfl⟩ : ∃ r, rows[i]? = some r ∧ y = V.str r := by
        rw [List.getElem?_map] at hi
        cases e : rows[i]? with
        | none => rw [e] at hi; cases hi
        | some x => rw [e] at hi; exact ⟨x, rfl, (Option.some.inj hi).symm⟩
      obtain ⟨q1, q2, q3, q4⟩ := hok r (List.mem_of_getElem? hri)
      have hil : i < rows.length := (List.getElem?_eq_some_iff.mp hri).1
      rw [drop_cons hri] at hgo
      refine ⟨_, rfl, ⟨_, rfl⟩, r, _, rfl, rfl, rfl, q1, fun a na => ?_⟩
      have sa := Same.new (o := .lst ((Txt.split r " ").map V.str)) na
      refine ⟨_, rfl, _, rfl, _, rfl, _, rfl, _, rfl, a, N0, Txt.split r " ", nest, kd, rfl, hnw, hkd, SqL.of upd_same, q2, q3, q4, sa _ _ gN, by omega, fun v G2 nest' b2 g2 res => ?_⟩
      have bG : But N0 G G2 := But.trans (But.same sa) b2
      have hG2 : Same H G2 := But.fresh hG bG HN
      have gR2 := bG _ _ gR' RN
      have gS2 := bG _ _ gS SN
      refine ⟨_, rfl, rfl, _, rfl, ?_⟩
      have hgo2 : (match readS kd (Txt.split r " ") nest with
          | none => some (i + 1)
          | some (_, n2) => badGo kd (rows.drop (i + 1)) (i + 1) n2) = some n := hgo
      cases o : readS kd (Txt.split r " ") nest with
      | none =>
        rw [o] at hgo2 res
        have en : i + 1 = n := Option.some.inj hgo2
        refine ifT3 (decide_eq_true res) ?_
        refine ⟨_, rfl, S0, _, rfl, .inl (SqL.of gS2), _, _, rfl, rfl, rfl, fun d nd => ?_⟩
        refine k d _ (hG2.trans (Same.new nd)) (none_of hG2 nd) ?_
        rw [upd_same, hyl, ← en]
        rfl
      | some pr =>
      obtain ⟨st, n2⟩ := pr
      rw [o] at hgo2 res
      obtain ⟨e1, e2, e3⟩ := res
      subst e1
      refine ifF3 (decide_eq_false e2) ?_
      refine ⟨_, rfl, .inl ⟨rfl, _, SqL.of gS2⟩, _, rfl, S0, _, _, rfl, rfl, gS2, small1000 (by omega), ?_⟩
      refine ⟨nest', ys ++ [v], _, _, rfl, Same.write hG2 HS, by rw [upd_ne RS]; exact gR2, upd_same, by rw [upd_ne SN.symm]; exact g2, by rw [List.length_append, hyl]; rfl, ?_, read_noWh o hnw, hgo2⟩
      have := readS_len o
      omega
    · rintro σ G ⟨nest, ys, v9, v10, rfl, hG, gR', gS, gN, hyl, hnl, hnw, hgo⟩
      rw [List.drop_of_length_le (by rw [List.length_map]; exact Nat.le_refl _)] at hgo
      rw [List.length_map] at hyl hgo
      cases nest with
      | nil =>
        have hgo2 : (none : Option Nat) = some n := hgo
        cases hgo2
      | cons n0 rest =>
        have en : rows.length + 1 = n := Option.some.inj hgo
        refine ⟨_, rfl, true, .inl ⟨_, SqL.of gN, rfl⟩, ?_⟩
        refine iteT ?_
        refine ⟨_, rfl, S0, _, rfl, .inl (SqL.of gS), _, _, rfl, rfl, rfl, fun d nd => ?_⟩
        refine k d _ (hG.trans (Same.new nd)) (none_of hG nd) ?_
        rw [upd_same, hyl, ← en]
        rfl
end
end K02

set_option Elab.async false
set_option linter.all false
set_option maxRecDepth 100000
set_option maxHeartbeats 8000000
/-! k02, the program: a head code with a wrong line refused -/
namespace K02
open PySem L2
theorem but_none {p d : Addr} {H G : Hp} {o : HO} (b : But p H G) (hp : G p = some o) (hd : G d = none) : H d = none := by
  cases e : H d with
  | none => rfl
  | some u =>
    by_cases z : d = p
    · rw [z, hp] at hd
      cases hd
    · exact absurd (b _ _ e z) (by rw [hd]; intro y; cases y)
def spHIBad (K : PySem.W.Frag) (C CB : Addr) : Sp := fun vs H _ E => ∃ (p dx : Addr) (x kd : Str) (rows : List Str) (n : Nat), vs = [.ref p, .str kd, .str x] ∧ H p = some (.ins C dx []) ∧ kd ∈ kindsL ∧ x.length + 2 ≤ sizeLine ∧ linesM x = rows ∧
  rows.length ≤ 20 ∧ (∀ r ∈ rows, RowOk r) ∧ badGo kd rows 0 [] = some n ∧
  ∀ d H', But p H H' → H d = none → H' d = some (.xd [("line", .int (n : Nat))]) → E (.ref CB) (some d) H'
section
variable {P : Program} {w : World} {K : PySem.W.Frag} {mg : Str → Option Value} {base : Heap}
theorem ok_hinitBad {f C CB fA fR fS fP : Addr} {fd fdA fdR : FuncData} (F : Fun K "__init__" "HeadCode.__init__" sHI f fd) (T : TxtN mg) (TK : TxtK K mg C)
    (GA : FnOk P w K mg base CX0 1 fA fdA ["value", "words"] (spAmong K)) (kA : PySem.W.keepIn K (.ref fA) = true) (bA : Binds K fdA ["value", "words"] []) (gA : mg "is_among" = some (.ref fA))
    (GR : FnOk P w K mg base (L2.CX P w) 7 fR fdR ["text", "kind", "step_in", "part_in", "most_lines", "most_ifs", "loop_in"] (spOutlBad K CB fS fP)) (kR : PySem.W.keepIn K (.ref fR) = true) (bR : Binds K fdR ["text", "kind", "step_in", "part_in", "most_lines", "most_ifs", "loop_in"] dsR) (rR : Vals [V.non] dsR) (gR : mg "read_outline" = some (.ref fR))
    (gS : mg "head_step_in" = some (.ref fS)) (gP : mg "head_part_in" = some (.ref fP))  :
    FnOk P w K mg base (L2.CX P w) 8 f fd ["self", "kind", "text"] (spHIBad K C CB) := by
  obtain ⟨cK, hcK, hCK⟩ := TK.hk
  obtain ⟨t1, hml⟩ := TK.ml
  obtain ⟨t2, hmi⟩ := TK.mi
  refine F.okX scHI (fun vs H Q E h => ?_) (fun cdv A outer s H vs Q E hr h => ?_)
  · obtain ⟨p, dx, x, kd, rows, n, rfl, _⟩ := h
    rfl
  · obtain ⟨p, dx, x, kd, rows, n, rfl, hp, hkd, hx, hrows, hn, hrok, hgo, kBad⟩ := h
    have hr1 : Room 1 _ := hr.mono (by decide)
    have hr2 : Room 2 _ := hr.mono (by decide)
    have hr7 : Room 7 _ := hr.mono (by decide)
    have hu := hu_of hr
    refine ⟨_, pss_cons (ps_if (pt_not (pt_val (pe_call GA hr1 rfl gA kA bA .nil pass0 (pa_cons (pv 1) (pa_cons (pe_tup (StX.pa_star (pe_glob (v := .ref cK) (by rfl) hcK rfl) (pa_cons pe_str pa_nil))) pa_nil))))) (pss_one PS.ghost) pss_nil)
      (pss_cons (ps_fld (pv 0) (pv 1) rfl)
      (pss_cons (ps_fld (pv 0) (pv 2) rfl)
      (pss_cons (ps_fld (pv 0) (pe_callSD GR hr7 rfl gR kR bR rR (fun σ => passAt (takes_of rfl rfl rfl rfl) σ) (by exact (pa_cons (pv 2) (pa_cons (pv 1) (pa_cons (pe_glob (v := .ref fS) (by rfl) gS rfl) (pa_cons (pe_glob (v := .ref fP) (by rfl) gP rfl) (pa_cons (pe_glob (v := .int 20) (by rfl) hml ⟨t1, rfl⟩) (pa_cons (pe_glob (v := .int 4) (by rfl) hmi ⟨t2, rfl⟩) pa_nil)))))))) rfl)
      PSs.ghost))), ?_⟩
    have hk9 : kd ∈ kinds8 ++ [("round" : Str)] := hkd
    refine ⟨_, rfl, cK, _, rfl, .inl (hCK _), (by show 9 ≤ sizeLine; decide), fun q nq => ?_⟩
    have sq := Same.new (o := .tup ((kinds8 ++ [("round" : Str)]).map V.str)) nq
    refine ⟨kd, q, kinds8 ++ [("round" : Str)], rfl, SqT.of upd_same, _, rfl, ?_⟩
    refine ifF3 (by rw [decide_eq_true hk9]; rfl) ?_
    refine ⟨_, rfl, _, rfl, p, C, dx, [], rfl, sq _ _ hp, TK.cl, TK.nK, (by show 0 < 1000; decide), ?_⟩
    refine ⟨_, rfl, _, rfl, p, C, dx, _, rfl, upd_same, TK.cl, TK.nT, (by show 1 < 1000; decide), ?_⟩
    have b2 : But p H _ := (But.same sq).trans ((But.upd (p := p) (o := .ins C dx (putF "kind" (.str kd) []))).trans (But.upd (p := p) (o := .ins C dx (putF "text" (.str x) (putF "kind" (.str kd) [])))))
    refine ⟨_, rfl, _, rfl, x, kd, 20, 4, rows, n, rfl, hkd, hx, hrows, by omega, by omega, hrok, hgo, fun d G sG hd gd => ?_⟩
    exact kBad d G (b2.trans (But.same sG)) (but_none b2 upd_same hd) gd
end
end K02

set_option Elab.async false
set_option linter.all false
set_option maxRecDepth 100000
set_option maxHeartbeats 2000000
/-! k02: clauses with a name and without one, mixed -/
namespace L2
open PySem PySem.Spec PyProof.Rows
/-- what mixed clauses wish; those with a name store in slot i -/
def wMix (K : PySem.W.Frag) (i : Nat) (Wo : WX) (D : Ends) : List (Bool × Cl) → WX
  | [] => Wo
  | (true, c, ts) :: more => fun cls d τ G => ∃ yes, PySem.W.exmOne K cls c = some yes ∧ (yes = true → ∀ e, G e = none → ts e cls d (goneD i D) (τ.set i (some (.ref e))) G) ∧ (yes = false → wMix K i Wo D more cls d τ G)
  | (false, c, ts) :: more => fun cls d τ G => ∃ yes, PySem.W.exmOne K cls c = some yes ∧ (yes = true → ∀ e, G e = none → ts e cls d D τ G) ∧ (yes = false → wMix K i Wo D more cls d τ G)
inductive Mixed (X : Cx) (n : Str) : List ExceptHandler → List (Bool × Cl) → Prop
  | nil : Mixed X n [] []
  | named {x : Str} {c : Value} {ts : Addr → Value → Option Addr → TS} {s0 : Stmt} {ss : List Stmt} {pa pb : Pos} {hs : List ExceptHandler} {l : List (Bool × Cl)} (nm : Names X x c)
      (su : ∀ (e : Addr) (oe : Obj) (cls : Value) (d : Option Addr) (pn : List (Addr × Obj)), Zc cls d oe → (∃ vs, oe.data = .fields vs) → PSs (X.suite e ((e, oe) :: pn)) (s0 :: ss) (ts e cls d)) (more : Mixed X n hs l) :
      Mixed X n (.ExceptHandler (some (.Name x pa)) (some n) (s0 :: ss) pb :: hs) ((true, c, ts) :: l)
  | bare {x : Str} {c : Value} {ts : Addr → Value → Option Addr → TS} {s0 : Stmt} {ss : List Stmt} {pa pb : Pos} {hs : List ExceptHandler} {l : List (Bool × Cl)} (nm : Names X x c)
      (su : ∀ (e : Addr) (oe : Obj) (cls : Value) (d : Option Addr) (pn : List (Addr × Obj)), Zc cls d oe → (∃ vs, oe.data = .fields vs) → PSs (X.suite e ((e, oe) :: pn)) (s0 :: ss) (ts e cls d)) (more : Mixed X n hs l) :
      Mixed X n (.ExceptHandler (some (.Name x pa)) none (s0 :: ss) pb :: hs) ((false, c, ts) :: l)
section
variable {X : Cx} {n : Str} {i : Nat} {body : List Stmt} {hd : ExceptHandler} {hs : List ExceptHandler} {l : List (Bool × Cl)} {pos : Pos} {tb : WX → TS} {Wo : WX}
theorem ps_try_mixed (hst : X.stack = X.env :: X.outer) (hfr : X.env.frame = some X.env.locals) (hN : X.N.Nodup) (hi : X.N[i]? = some n) (hln : X.env.kindOf n = some .local) (tk : Takes X Wo)
    (hb : ∀ (W : WX) (pn : List (Addr × Obj)) (xe : Value → Shared → Prop), Takes (X.tr pn xe) W → PassesOwn (model X.prog X.w) X.A X.env xe → PSs (X.tr pn xe) body (tb W))
    (hh : Mixed X n (hd :: hs) l) : PS X (.Try body (hd :: hs) [] [] pos) (fun D σ H => tb (wMix X.K i Wo D l) D σ H) := by
  constructor
  intro pins s σ H D I start
  have ok := I.ok
  have frs_ : X.A.frames = some (X.env :: X.outer) := ok.frames.trans (by rw [hst])
  refine wpAny_Try_except ?_
  have run := (hb (wMix X.K i Wo D l) (X.pn ++ pins) (fun ev t1 => wpAny (model X.prog X.w) X.A (noteFrame ev X.env) (fun _ t2 => wpAny (model X.prog X.w) X.A (setFlight ev none)
    (fun _ t3 => wpAny (model X.prog X.w) X.A (handleBy ev X.env (hd :: hs)) (SP X pins D) X.xe t3) X.xe t2) X.xe t1) (fun u t xx => ?_) PassesOwn.looking).run [] s σ H D (I.toTry _) start
  · refine wpAny_mono run (fun f t z => ?_) (fun ev t z => z)
    cases f with
    | ret u =>
      obtain ⟨v, τ, G, J, r, q⟩ := z
      exact ⟨v, τ, G, J.ofTry ok, r, q⟩
    | next =>
      obtain ⟨τ, G, J, q⟩ := z
      exact wpAny_execs_nil ⟨τ, G, J.ofTry ok, q⟩
    | brk =>
      obtain ⟨τ, G, J, q⟩ := z
      exact ⟨τ, G, J.ofTry ok, q⟩
    | cont =>
      obtain ⟨τ, G, J, q⟩ := z
      exact ⟨τ, G, J.ofTry ok, q⟩
  obtain ⟨e, B, t0, pins0, τ, G, cls, d, rfl, J0, ground, up, sky, ne, eos, bare, wish⟩ := xx
  have J : Inv X pins τ G t0 := J0.ofTry ok
  have sky2 : Sky B (X.env :: X.outer) e (Zc cls d) X.env.locals t.heap := by
    rw [← hst]
    exact sky
  show wpAny (model X.prog X.w) X.A (noteFrame (.ref e) X.env) _ _ _
  refine Sky.land Zc.steady frs_ hfr sky2 fun g3 fly3 up3 => ?_
  have up03 := up.trans up3
  have J3 : Inv X pins τ G { t with heap := g3 } := J.landed ground fly3.1 up03 eos bare
  obtain ⟨o3, v3, get3, z3, d3⟩ := fly3.there
  have out : e ∉ frs (X.env :: X.outer) := fun m => by
    obtain ⟨_, o', e', no⟩ := fly3.2.2.1.mem m
    rw [get3] at e'
    cases e'
    exact no _ d3
  have outL : e ≠ X.env.locals := fun z => out (List.mem_filterMap.mpr ⟨X.env, List.mem_cons_self, by rw [hfr, z]⟩)
  have outF : e ∉ X.fs := fun m => by
    obtain ⟨env', he', q⟩ := List.mem_filterMap.mp m
    exact out (List.mem_filterMap.mpr ⟨env', List.mem_cons_of_mem _ he', q⟩)
  have S3 := J3.suite get3 d3 ne outL outF
  have main : ∀ {hs' : List ExceptHandler} {l' : List (Bool × Cl)}, Mixed X n hs' l' → wMix X.K i Wo D l' cls d τ G → wpAny (model X.prog X.w) X.A (handleBy (.ref e) X.env hs') (SP X pins D) X.xe { t with heap := g3 } := by
    intro hs' l' c
    induction c with
    | nil =>
      intro w
      refine wpAny_handleBy_nil ?_
      obtain ⟨_, _, _, oe, vs, T, oT, ts', he, _, hdt, h1, _⟩ := id fly3
      have fin : wpAny (model X.prog X.w) X.A (setFlight (.ref e) X.env.frame) (fun _ t4 => wpAny (model X.prog X.w) X.A (throw (.ref e) : Sem Flow) (SP X pins D) X.xe t4) X.xe { t with heap := g3 } := by
        rw [hfr]
        refine HandSPX.setFlight_upZ fly3 fun g4 held4 up4 => wpAny_throw (tk _ _ ⟨e, B, t0, pins, τ, G, cls, d, rfl, J, ground, up03.trans up4, .inr (.inr ?_), ne, eos, bare, w⟩)
        rw [hst]
        exact held4
      unfold PySem.passOn
      refine wpAny_bind (wpAny_field he hdt h1 ?_)
      have notNone : ¬ ((Value.ref T == Value.none) = true) := by simp
      rw [if_neg notNone]
      first
        | exact wpAny_bind fin
        | exact wpAny_bind (wpAny_pure (wpAny_bind fin))
    | @named x c ts s0 ss pa pb hs2 l2 nm su more ih =>
      intro w
      obtain ⟨yes, hy, w1, w0⟩ := w
      refine wpAny_handleBy_cons (codeAny_handlers_test ?_) (by intro q; cases q)
      have ty : PySem.W.Looks (model X.prog X.w) g3 (typeOf (.ref e)) cls := fun A Q E s k q => wpAny_typeOf_ref (k _ _ get3) (by rw [z3.1]; exact q)
      have mt := PySem.W.exm_one (M := model X.prog X.w) (J3.kIn) ty hy
      have named : ∀ {Q : Value → Shared → Prop} {E : Value → Shared → Prop}, Q c { t with heap := g3 } → wpAny (model X.prog X.w) (X.A.mark (some (.ref e))) (eval (.Name x pa) X.env) Q E { t with heap := g3 } := by
        intro Q E q
        obtain ⟨hg, hdbg, inMod | ⟨notIn, isB, notName⟩⟩ := nm
        · exact ld_glob (X := X.suite e ((e, o3) :: (X.pn ++ pins))) S3 hg inMod q hdbg
        · exact ld_blt (X := X.suite e ((e, o3) :: (X.pn ++ pins))) S3 hg notIn isB q notName hdbg
      refine named (mt.here ?_)
      cases yes with
      | false => exact ih (w0 rfl)
      | true =>
        refine codeAny_handlers_suite_as (HandSPX.lands_againZ fly3 fun g4 fly4 up4 => ?_)
        have J4 : Inv X pins τ G { t with heap := g4 } := J.landed ground fly4.1 (up03.trans up4) eos bare
        obtain ⟨o4, v4, get4, z4, d4⟩ := fly4.there
        refine store_ok (X := X.suite e ((e, o4) :: (X.pn ++ pins))) (v := .ref e) (J4.suite get4 d4 ne outL outF) hN hi (.inl hln) rfl (fun s5 S5 => ?_) (.inr hln)
        refine wpAny_mono ((su e o4 cls d (X.pn ++ pins) z4 ⟨_, d4⟩).run [] s5 _ G _ S5 (w1 rfl e ne)) (fun fl s6 z => ?_) (fun _ _ z => False.elim z)
        have fin := suite_end (ok := ok) (pb := pb) hN hi hln z
        cases fl <;> exact fin
    | @bare x c ts s0 ss pa pb hs2 l2 nm su more ih =>
      intro w
      obtain ⟨yes, hy, w1, w0⟩ := w
      refine wpAny_handleBy_cons (codeAny_handlers_test ?_) (by intro q; cases q)
      have ty : PySem.W.Looks (model X.prog X.w) g3 (typeOf (.ref e)) cls := fun A Q E s k q => wpAny_typeOf_ref (k _ _ get3) (by rw [z3.1]; exact q)
      have mt := PySem.W.exm_one (M := model X.prog X.w) (J3.kIn) ty hy
      have named : ∀ {Q : Value → Shared → Prop} {E : Value → Shared → Prop}, Q c { t with heap := g3 } → wpAny (model X.prog X.w) (X.A.mark (some (.ref e))) (eval (.Name x pa) X.env) Q E { t with heap := g3 } := by
        intro Q E q
        obtain ⟨hg, hdbg, inMod | ⟨notIn, isB, notName⟩⟩ := nm
        · exact ld_glob (X := X.suite e ((e, o3) :: (X.pn ++ pins))) S3 hg inMod q hdbg
        · exact ld_blt (X := X.suite e ((e, o3) :: (X.pn ++ pins))) S3 hg notIn isB q notName hdbg
      refine named (mt.here ?_)
      cases yes with
      | false => exact ih (w0 rfl)
      | true =>
        refine codeAny_handlers_suite (HandSPX.lands_againZ fly3 fun g4 fly4 up4 => ?_)
        have J4 : Inv X pins τ G { t with heap := g4 } := J.landed ground fly4.1 (up03.trans up4) eos bare
        obtain ⟨o4, v4, get4, z4, d4⟩ := fly4.there
        refine wpAny_mono ((su e o4 cls d (X.pn ++ pins) z4 ⟨_, d4⟩).run [] _ _ G _ (J4.suite get4 d4 ne outL outF) (w1 rfl e ne)) (fun fl s6 z => ?_) (fun _ _ z => False.elim z)
        cases fl with
        | ret u =>
          obtain ⟨v, τ6, G6, S6, r, y⟩ := z
          exact ⟨v, τ6, G6, S6.unsuite ok, r, y⟩
        | next =>
          obtain ⟨τ6, G6, S6, y⟩ := z
          exact ⟨τ6, G6, S6.unsuite ok, y⟩
        | brk =>
          obtain ⟨τ6, G6, S6, y⟩ := z
          exact ⟨τ6, G6, S6.unsuite ok, y⟩
        | cont =>
          obtain ⟨τ6, G6, S6, y⟩ := z
          exact ⟨τ6, G6, S6.unsuite ok, y⟩
  exact main hh wish
end
end L2

set_option Elab.async false
set_option linter.all false
set_option maxRecDepth 100000
set_option maxHeartbeats 4000000
/-! Part D: the law's draws -/
namespace K02D
open PySem L2
abbrev sBag : Stmt := K02.top 51
abbrev sDraw : Stmt := K02.top 52
/-! ### the bag -/
def bagL (c : Addr) (p q r z : Int) : List (Key × V) := [(.inr "cells", .ref c), (.inr "at", .int p), (.inr "digits", .int q), (.inr "count", .int r), (.inr "fold", .int z)]
section
variable (c : Addr) (p q r z y : Int)
theorem get_cells : valV (bagL c p q r z) (.inr "cells" : Key) = some (.ref c) := by kernel_rfl
theorem get_at : valV (bagL c p q r z) (.inr "at" : Key) = some (.int p) := by kernel_rfl
theorem get_digits : valV (bagL c p q r z) (.inr "digits" : Key) = some (.int q) := by kernel_rfl
theorem get_count : valV (bagL c p q r z) (.inr "count" : Key) = some (.int r) := by kernel_rfl
theorem get_fold : valV (bagL c p q r z) (.inr "fold" : Key) = some (.int z) := by kernel_rfl
theorem put_at : putK (bagL c p q r z) (.inr "at" : Key) (.int y) = bagL c y q r z := by kernel_rfl
theorem put_digits : putK (bagL c p q r z) (.inr "digits" : Key) (.int y) = bagL c p y r z := by kernel_rfl
theorem put_count : putK (bagL c p q r z) (.inr "count" : Key) (.int y) = bagL c p q y z := by kernel_rfl
theorem put_fold : putK (bagL c p q r z) (.inr "fold" : Key) (.int y) = bagL c p q r y := by kernel_rfl
theorem bag_new : mergeK [] (bagL c p q r z) = bagL c p q r z := by kernel_rfl
end
/-- a bag stands at b, behind at most m draws -/
structure Bag (H : Hp) (b : Addr) (m : Nat) (c : Addr) (ns : List Int) (p q r z : Int) : Prop where
  at_ : H b = some (.dK (bagL c p q r z))
  cs : H c = some (.lst (ns.map V.int))
  len : ns.length ≤ 63
  p0 : 0 ≤ p
  q0 : 0 ≤ q
  r0 : 0 ≤ r
  rm : r ≤ m
  z0 : 0 ≤ z
  z1 : z < 2147483648
section
variable {H : Hp} {b : Addr} {m : Nat} {c : Addr} {ns : List Int} {p q r z : Int}
theorem Bag.g_cells (B : Bag H b m c ns p q r z) : DGet H b (.str "cells") (some (.ref c)) := by
  rw [← get_cells c p q r z]
  exact DGet.k (k := .inr "cells") B.at_
theorem Bag.g_at (B : Bag H b m c ns p q r z) : DGet H b (.str "at") (some (.int p)) := by
  rw [← get_at c p q r z]
  exact DGet.k (k := .inr "at") B.at_
theorem Bag.g_digits (B : Bag H b m c ns p q r z) : DGet H b (.str "digits") (some (.int q)) := by
  rw [← get_digits c p q r z]
  exact DGet.k (k := .inr "digits") B.at_
theorem Bag.g_count (B : Bag H b m c ns p q r z) : DGet H b (.str "count") (some (.int r)) := by
  rw [← get_count c p q r z]
  exact DGet.k (k := .inr "count") B.at_
theorem Bag.g_fold (B : Bag H b m c ns p q r z) : DGet H b (.str "fold") (some (.int z)) := by
  rw [← get_fold c p q r z]
  exact DGet.k (k := .inr "fold") B.at_
theorem few5 : (bagL c p q r z).length < sizeLine := by
  show 5 < sizeLine
  decide
theorem Bag.p_at (B : Bag H b m c ns p q r z) (y : Int) : DPut H b (.str "at") (.int y) (upd H b (.dK (bagL c y q r z))) := by
  rw [← put_at c p q r z y]
  exact DPut.k (k := .inr "at") B.at_ few5
theorem Bag.p_digits (B : Bag H b m c ns p q r z) (y : Int) : DPut H b (.str "digits") (.int y) (upd H b (.dK (bagL c p y r z))) := by
  rw [← put_digits c p q r z y]
  exact DPut.k (k := .inr "digits") B.at_ few5
theorem Bag.p_count (B : Bag H b m c ns p q r z) (y : Int) : DPut H b (.str "count") (.int y) (upd H b (.dK (bagL c p q y z))) := by
  rw [← put_count c p q r z y]
  exact DPut.k (k := .inr "count") B.at_ few5
theorem Bag.p_fold (B : Bag H b m c ns p q r z) (y : Int) : DPut H b (.str "fold") (.int y) (upd H b (.dK (bagL c p q r y))) := by
  rw [← put_fold c p q r z y]
  exact DPut.k (k := .inr "fold") B.at_ few5
end
def BagAt (c : Addr) (H : Hp) (b : Addr) (m : Nat) : Prop := ∃ ns p q r z, Bag H b m c ns p q r z
theorem BagAt.keep {c : Addr} {H H' : Hp} {b : Addr} {m : Nat} (h : BagAt c H b m) (s : Same H H') : BagAt c H' b m := by
  obtain ⟨ns, p, q, r, z, B⟩ := h
  exact ⟨ns, p, q, r, z, s _ _ B.at_, s _ _ B.cs, B.len, B.p0, B.q0, B.r0, B.rm, B.z0, B.z1⟩
theorem bag_upd {H : Hp} {b c : Addr} {m m' : Nat} {ns : List Int} {p q r z p' q' r' z' : Int} (B : Bag H b m c ns p q r z) (hp : 0 ≤ p') (hq : 0 ≤ q') (hr : 0 ≤ r') (hm : r' ≤ m') (hz : 0 ≤ z') (hz1 : z' < 2147483648) :
    Bag (upd H b (.dK (bagL c p' q' r' z'))) b m' c ns p' q' r' z' :=
  ⟨upd_same, by rw [upd_ne (ne_of B.cs B.at_ (by intro z; cases z))]; exact B.cs, B.len, hp, hq, hr, hm, hz, hz1⟩
def spBag (K : PySem.W.Frag) : Sp := fun vs H Q _ => ∃ (a : Addr) (ns : List Int), vs = [.ref a] ∧ SqL K H a (ns.map V.int) ∧ ns.length ≤ 63 ∧ ∀ (b c : Addr) (H' : Hp), Same H H' → BagAt c H' b 0 → Q (.ref b) H'
/-- all but b is kept -/
def But (b : Addr) (H H' : Hp) : Prop := ∀ x o, H x = some o → x ≠ b → H' x = some o
theorem But.refl (b : Addr) (H : Hp) : But b H H := fun _ _ h _ => h
theorem But.trans {b : Addr} {H H1 H2 : Hp} (h1 : But b H H1) (h2 : But b H1 H2) : But b H H2 := fun x o h n => h2 x o (h1 x o h n) n
theorem But.upd {b : Addr} {H H1 : Hp} {o : HO} (h1 : But b H H1) : But b H (upd H1 b o) := fun x u h n => by rw [upd_ne n]; exact h1 x u h n
def spDraw : Sp := fun vs H Q _ => ∃ (b c : Addr) (lim : Int) (m : Nat), vs = [.ref b, .int lim] ∧ BagAt c H b m ∧ m ≤ 100000 ∧ 0 < lim ∧ lim ≤ 1000000000000000 ∧
  ∀ (r : Int) (H' : Hp), 0 ≤ r → r < lim → BagAt c H' b (m + 1) → But b H H' → Q (.int r) H'
/-- the names that the module does not have -/
structure TxtB (mg : Str → Option Value) : Prop where
  len : mg "len" = none
  int : mg "int" = none
  list : mg "list" = none
  range : mg "range" = none
section
variable {P : Program} {w : World} {K : PySem.W.Frag} {mg : Str → Option Value} {base : Heap}
theorem scB : FnScope ["_law_script", "_law_fold", "_law_cell"] ["_law_script"] (defScope sBag) := ⟨rfl, rfl, rfl, by decide +kernel, rfl, by decide +kernel, by decide +kernel⟩
theorem ok_bag {f : Addr} {fd : FuncData} (F : Fun K "_law_bag" "_law_bag" sBag f fd) (T : TxtB mg) : FnOk P w K mg base CX0 1 f fd ["_law_script"] (spBag K) := by
  refine F.ok scB (fun vs H Q E h => ?_) (fun cdv A outer s H vs Q E hr h => ?_)
  · obtain ⟨a, ns, rfl, _⟩ := h
    rfl
  · obtain ⟨a, ns, rfl, hS, hlen, k⟩ := h
    have hu := hu_of hr
    refine ⟨_, pss_cons (ps_set (i := 1) scB.nd rfl (Or.inl rfl) pe_int)
      (pss_cons (ps_for PassesOwn.never rfl (pi_list (pv 0)) (pg_name (i := 2) scB.nd rfl (Or.inl rfl))
        (pss_one (ps_set (i := 1) scB.nd rfl (Or.inl rfl) (pe_op op_mod (pe_callTy call_int1 (by rfl) T.int (by decide +kernel) (pa_cons (pe_op op_add (pe_op op_mul (pv 1) pe_int) (pv 2)) pa_nil)) pe_int))))
      (pss_one (ps_ret (pe_disp (pps_cons pe_str (pe_callTy call_list_of (by rfl) T.list (by decide +kernel) (pa_cons (pv 0) pa_nil)) (pps_cons pe_str pe_int (pps_cons pe_str pe_int (pps_cons pe_str pe_int (pps_cons pe_str (pv 1) pps_nil))))) (by rfl) (by rfl) (fun z => by cases z) (by decide))))), ?_⟩
    refine ⟨_, rfl, a, rfl, ⟨_, hS⟩, for_list (K := K) (a := a) (xs := ns.map V.int) (fun i σ H2 => ∃ (z : Int) (v : Option V), σ = [some (.ref a), some (.int z), v] ∧ H2 = H ∧ 0 ≤ z ∧ z < 1000000009)
      ⟨0, none, rfl, rfl, by decide, by decide⟩ (fun i σ H2 _ ⟨_, _, _, e, _⟩ => by rw [e]; exact hS) ?_ ?_⟩
    · rintro i y σ H2 hi ⟨z, v, rfl, rfl, z0, z1⟩
      obtain ⟨n, rfl⟩ : ∃ n, y = V.int n := by
        rw [List.getElem?_map] at hi
        cases e : ns[i]? with
        | none => rw [e] at hi; cases hi
        | some n => rw [e] at hi; exact ⟨n, (Option.some.inj hi).symm⟩
      refine ⟨_, rfl, _, _, rfl, rfl, .inl ⟨by omega, by omega⟩, _, rfl, _, _, rfl, rfl, .inl ⟨_, rfl, _, _, rfl, rfl, (by show (0 : Int) < 1000000009; decide), ?_⟩⟩
      exact ⟨_, _, rfl, rfl, Int.emod_nonneg _ (by decide), Int.emod_lt_of_pos _ (by decide)⟩
    · rintro σ H2 ⟨z, v, rfl, rfl, z0, z1⟩
      intro p hp
      have s1 : Same H2 (upd H2 p (.dK [])) := fun b o e => by rw [upd_ne (ne_of_none e hp)]; exact e
      refine ⟨_, rfl, a, _, rfl, .inl (s1.seq hS), fun l hl => ?_⟩
      have npl : p ≠ l := fun e => by rw [e, upd_same] at hl; cases hl
      refine ⟨_, rfl, by rw [upd_ne npl]; exact upd_same, bagL l 0 0 0 z, rfl, by show 5 ≤ 15; decide, ?_⟩
      refine k p l _ (fun b o e => ?_) ⟨ns, 0, 0, 0, z, ?_, ?_, hlen, Int.le_refl _, Int.le_refl _, Int.le_refl _, Int.le_refl _, z0, by omega⟩
      · have bp := ne_of_none e hp
        have bl : b ≠ l := fun z => by rw [← z, upd_ne bp, e] at hl; cases hl
        rw [upd_ne bp, upd_ne bl, upd_ne bp]
        exact e
      · rw [bag_new]
        exact upd_same
      · rw [upd_ne npl.symm]
        exact upd_same
theorem scD : FnScope ["_law_bag_here", "_law_limit", "_law_cell", "_law_digit", "_law_base", "_law_found"] ["_law_bag_here", "_law_limit"] (defScope sDraw) := ⟨rfl, rfl, rfl, by decide +kernel, rfl, by decide +kernel, by decide +kernel⟩
theorem ok_draw {f : Addr} {fd : FuncData} (F : Fun K "_law_draw" "_law_draw" sDraw f fd) (T : TxtB mg) : FnOk P w K mg base CX0 1 f fd ["_law_bag_here", "_law_limit"] spDraw := by
  refine F.ok scD (fun vs H Q E h => ?_) (fun cdv A outer s H vs Q E hr h => ?_)
  · obtain ⟨b, c, lim, m, rfl, _⟩ := h
    rfl
  · obtain ⟨b, c, lim, m, rfl, hB, hm, h0, h1, k⟩ := h
    have hu := hu_of hr
    -- the end: a digit, or a number of the fold
    obtain ⟨t2, p2, r2⟩ : ∃ t2, PSs (cxOf CX0 P w K mg base ["_law_bag_here", "_law_limit", "_law_cell", "_law_digit", "_law_base", "_law_found"] "_law_draw" (defScope sDraw) f cdv A outer s H E).nox ((defBody sDraw).drop 2) t2 ∧
        ∀ (H1 : Hp) (v : Option V), BagAt c H1 b (m + 1) → But b H H1 → t2 { nx := fun _ H' => Q .non H', rt := Q } [some (.ref b), some (.int lim), v, none, none, none] H1 := by
      refine ⟨_, pss_cons (ps_if (pt_cmpR op_gt (pe_dget hu (pv 0) pe_str (fun _ _ => rfl)) pe_int (nomark _))
          (pss_cons (ps_set (i := 3) scD.nd rfl (Or.inl rfl) (pe_op op_mod (pe_callTy call_int1 (by rfl) T.int (by decide +kernel) (pa_cons (pe_dget hu (pv 0) pe_str (fun _ _ => rfl)) pa_nil)) (pv 1)))
          (pss_cons (ps_dput hu (pv 0) pe_str (pe_op op_fdivW (pe_dget hu (pv 0) pe_str (fun _ _ => rfl)) (pv 1)) rfl)
          (pss_one (ps_ret (pv 3))))) pss_nil)
        (pss_cons (ps_set (i := 4) scD.nd rfl (Or.inl rfl) (pe_op op_add (pe_op op_add (pe_dget hu (pv 0) pe_str (fun _ _ => rfl)) (pe_op op_mul (pe_dget hu (pv 0) pe_str (fun _ _ => rfl)) pe_int)) pe_int))
        (pss_cons (ps_set (i := 5) scD.nd rfl (Or.inl rfl) (pe_op op_fdiv (pe_callTy call_int1 (by rfl) T.int (by decide +kernel) (pa_cons (pe_op op_mod (pe_op op_pow (pv 4) pe_int) pe_int) pa_nil)) pe_int))
        (pss_one (ps_ret (pe_ifExp (pt_cmpR op_lt (pv 1) (pe_op op_pow pe_int pe_int) (nomark _)) (pe_op op_mod (pv 5) (pv 1)) (pe_op op_mod (pe_callTy call_int1 (by rfl) T.int (by decide +kernel) (pa_cons (pe_op op_pow (pv 5) pe_int) pa_nil)) (pv 1))))))), ?_⟩
      intro H1 v ⟨ns, p, q, r, z, B⟩ hk
      refine ⟨_, rfl, b, _, rfl, B.g_digits, _, _, rfl, rfl, _, rfl, ?_⟩
      refine ite2 (fun hq => ?_) (fun hq => ?_)
      · refine ⟨_, rfl, b, _, rfl, B.g_digits, .inl ⟨_, rfl, _, rfl, _, _, rfl, rfl, h0, ?_⟩⟩
        have hw : CDivW q lim := wide_div (b := 60) h0 (by
          have e : (2 : Nat) ^ 60 = 1152921504606846976 := by decide
          rw [e]
          omega) (by decide) (by decide)
        refine ⟨_, rfl, b, _, rfl, B.g_digits, _, rfl, q, lim, rfl, rfl, hw, _, rfl, b, _, rfl, B.p_digits _, _, rfl, ?_⟩
        exact k _ _ (Int.emod_nonneg _ (by omega)) (Int.emod_lt_of_pos _ h0) ⟨ns, _, _, _, _, bag_upd B B.p0 (Int.ediv_nonneg B.q0 (by omega)) B.r0 B.rm B.z0 B.z1⟩ hk.upd
      · refine ⟨_, rfl, b, _, rfl, B.g_fold, _, rfl, b, _, rfl, B.g_count, r, 7907, rfl, rfl, .inl ⟨by have := B.r0; omega, by have := B.rm; omega⟩, z, _, rfl, rfl, z + r * 7907, 31, rfl, rfl, ?_⟩
        have hb0 : 0 ≤ z + r * 7907 + 31 := by
          have := B.r0
          have := B.z0
          omega
        have hb1 : (z + r * 7907 + 31).natAbs < 2 ^ 64 := by
          have e : (2 : Nat) ^ 64 = 18446744073709551616 := by decide
          rw [e]
          have := B.rm
          have := B.r0
          have := B.z1
          omega
        have hl : ∀ x y : Int, 0 ≤ x % lim ∧ x % lim < lim := fun x _ => ⟨Int.emod_nonneg _ (by omega), Int.emod_lt_of_pos _ h0⟩
        refine ⟨_, rfl, _, 17, rfl, rfl, ⟨by decide, by decide, hb1⟩, _, _, rfl, rfl, (by show (0 : Int) < 2305843009213693951; decide), .inl ⟨_, rfl, _, 128, rfl, rfl, ⟨by decide, by decide⟩, ?_⟩⟩
        have f0 : 0 ≤ (z + r * 7907 + 31) ^ Int.toNat 17 % 2305843009213693951 / 128 := Int.ediv_nonneg (Int.emod_nonneg _ (by decide)) (by decide)
        have f1 : (z + r * 7907 + 31) ^ Int.toNat 17 % 2305843009213693951 / 128 < 18446744073709551616 := by
          have := Int.emod_lt_of_pos ((z + r * 7907 + 31) ^ Int.toNat 17) (show (0 : Int) < 2305843009213693951 by decide)
          omega
        have f2 : ((z + r * 7907 + 31) ^ Int.toNat 17 % 2305843009213693951 / 128).natAbs < 2 ^ 64 := by
          have e : (2 : Nat) ^ 64 = 18446744073709551616 := by decide
          rw [e]
          omega
        have B' : BagAt c H1 b (m + 1) := ⟨ns, p, q, r, z, B⟩
        refine ⟨_, rfl, 10, 15, rfl, rfl, ⟨by decide, by decide, by decide⟩, _, _, rfl, rfl, _, rfl, ?_⟩
        refine ite2 (fun _ => ?_) (fun _ => ?_)
        · exact ⟨_, rfl, _, rfl, _, _, rfl, rfl, h0, k _ _ (hl _ 0).1 (hl _ 0).2 B' hk⟩
        · exact ⟨_, rfl, _, 3, rfl, rfl, ⟨by decide, by decide, f2⟩, .inl ⟨_, rfl, _, rfl, _, _, rfl, rfl, h0, k _ _ (hl _ 0).1 (hl _ 0).2 B' hk⟩⟩
    refine ⟨_, pss_cons (ps_dput hu (pv 0) pe_str (pe_op op_add (pe_dget hu (pv 0) pe_str (fun _ _ => rfl)) pe_int) rfl)
      (pss_cons (ps_if (PW.pt (pw_and (pt_cmpR op_eq (pe_dget hu (pv 0) pe_str (fun _ _ => rfl)) pe_int (nomark _)) (pw_and1 (pt_cmpR op_lt (pe_dget hu (pv 0) pe_str (fun _ _ => rfl)) (pe_callB call_len_seq (by rfl) T.len PySem.boot_len (pa_cons (pe_dget hu (pv 0) pe_str (fun _ _ => rfl)) pa_nil)) (nomark _)))))
        (pss_cons (ps_set (i := 2) scD.nd rfl (Or.inl rfl) (pe_ix ix_list (pe_dget hu (pv 0) pe_str (fun _ _ => rfl)) (pe_dget hu (pv 0) pe_str (fun _ _ => rfl)) (fun _ _ => rfl)))
        (pss_cons (ps_dput hu (pv 0) pe_str (pe_op op_add (pe_dget hu (pv 0) pe_str (fun _ _ => rfl)) pe_int) rfl)
        (pss_one (ps_if (pt_cmpR op_ge (pv 2) (pe_op op_pow pe_int pe_int) (nomark _))
          (pss_one (ps_dput hu (pv 0) pe_str (pe_op op_sub (pv 2) (pe_op op_pow pe_int pe_int)) rfl))
          (pss_one (ps_dput hu (pv 0) pe_str (pe_op op_mod (pe_callTy call_int1 (by rfl) T.int (by decide +kernel) (pa_cons (pe_op op_add (pe_op op_mul (pe_dget hu (pv 0) pe_str (fun _ _ => rfl)) pe_int) (pv 2)) pa_nil)) pe_int) rfl))))))
        pss_nil) p2), ?_⟩
    obtain ⟨ns, p, q, r, z, B⟩ := hB
    refine ⟨_, rfl, b, _, rfl, B.g_count, r, 1, rfl, rfl, _, rfl, b, _, rfl, B.p_count _, ?_⟩
    have B1 : Bag (upd H b (.dK (bagL c p q (r + 1) z))) b (m + 1) c ns p q (r + 1) z := bag_upd B B.p0 B.q0 (by have := B.r0; omega) (by have := B.rm; omega) B.z0 B.z1
    have k1 : But b H (upd H b (.dK (bagL c p q (r + 1) z))) := (But.refl b H).upd
    refine ⟨_, rfl, b, _, rfl, B1.g_digits, rfl, _, rfl, ?_⟩
    refine ite2 (fun hq => ?_) (fun hq => ?_)
    · refine ⟨_, rfl, b, _, rfl, B1.g_at, _, rfl, b, _, rfl, B1.g_cells, c, _, rfl, .inl (SqL.of B1.cs), _, _, rfl, rfl, _, rfl, ?_⟩
      refine ite2 (fun hp => ?_) (fun hp => ?_)
      · have hp' : p < ((ns.map V.int).length : Int) := of_decide_eq_true hp
        rw [List.length_map] at hp'
        have hpn : p.toNat < ns.length := by have := B.p0; omega
        obtain ⟨cell, hcell⟩ : ∃ cell : Int, ns[p.toNat]? = some cell := ⟨_, List.getElem?_eq_getElem hpn⟩
        have hit : (ns.map V.int)[p.toNat]? = some (V.int cell) := by simp [hcell]
        have hat : atI (ns.map V.int) p = some (V.int cell) := by
          have e : p = (p.toNat : Int) := by have := B.p0; omega
          rw [e]
          exact atI_nat hit
        have B2 : Bag (upd (upd H b (.dK (bagL c p q (r + 1) z))) b (.dK (bagL c (p + 1) q (r + 1) z))) b (m + 1) c ns (p + 1) q (r + 1) z := bag_upd B1 (by have := B.p0; omega) B1.q0 B1.r0 B1.rm B1.z0 B1.z1
        refine ⟨_, rfl, b, _, rfl, B1.g_cells, _, rfl, b, _, rfl, B1.g_at, c, _, p, _, rfl, rfl, SqL.of B1.cs, hat, ?_⟩
        refine ⟨_, rfl, b, _, rfl, B1.g_at, p, 1, rfl, rfl, _, rfl, b, _, rfl, B1.p_at _, ?_⟩
        refine ⟨_, rfl, 10, 18, rfl, rfl, ⟨by decide, by decide, by decide⟩, _, _, rfl, rfl, _, rfl, ?_⟩
        refine ite2 (fun hc => ?_) (fun hc => ?_)
        · have hc' : (10 : Int) ^ Int.toNat 18 ≤ cell := of_decide_eq_true hc
          refine ⟨_, rfl, 10, 18, rfl, rfl, ⟨by decide, by decide, by decide⟩, _, _, rfl, rfl, _, rfl, b, _, rfl, B2.p_digits _, ?_⟩
          exact r2 _ _ ⟨ns, _, _, _, _, bag_upd B2 B2.p0 (by omega) B2.r0 B2.rm B2.z0 B2.z1⟩ k1.upd.upd
        · refine ⟨_, rfl, b, _, rfl, B2.g_fold, z, 69069, rfl, rfl, .inl ⟨by have := B.z0; omega, by have := B.z1; omega⟩, _, rfl, _, cell, rfl, rfl, .inl ⟨_, rfl, _, 2147483587, rfl, rfl, (by show (0 : Int) < 2147483587; decide), _, rfl, b, _, rfl, B2.p_fold _, ?_⟩⟩
          refine r2 _ _ ⟨ns, _, _, _, _, bag_upd B2 B2.p0 B2.q0 B2.r0 B2.rm (Int.emod_nonneg _ (by decide)) ?_⟩ k1.upd.upd
          have := Int.emod_lt_of_pos (z * 69069 + cell) (show (0 : Int) < 2147483587 by decide)
          omega
      · exact r2 _ none ⟨ns, p, q, _, z, B1⟩ k1
    · exact r2 _ none ⟨ns, p, q, _, z, B1⟩ k1
end
end K02D

set_option Elab.async false
set_option linter.all false
set_option maxRecDepth 100000
set_option maxHeartbeats 8000000
/-! k02, the law: kinds, goals, names -/
namespace K02
open PySem L2
open K02D (TxtB BagAt spBag spDraw)
abbrev sKinds : Stmt := top 53
abbrev sGoal : Stmt := top 54
abbrev sLNames : Stmt := top 55
abbrev sLNum : Stmt := top 56
abbrev sLRun : Stmt := top 57
abbrev sLSum : Stmt := top 58
abbrev sLPart : Stmt := top 59
abbrev sLLine : Stmt := top 60
abbrev sDNum : Stmt := top 61
abbrev sDLine : Stmt := top 62
abbrev sSpoil : Stmt := top 63
abbrev sTold : Stmt := top 64
abbrev sLaw : Stmt := top 65
def goalD : List (Key × V) := [(Sum.inr ("size" : Str), V.str "size"), (Sum.inr ("used" : Str), V.str "used"), (Sum.inr ("ahead" : Str), V.str "ahead"), (Sum.inr ("round" : Str), V.str "size")]
theorem goal_at : ∀ kd ∈ kindsL, (valV (mergeK [] goalD) (Sum.inr kd)).getD (V.str "word") = V.str (toldM kd) := by decide +kernel
def namesL (kd : Str) : List Str := handedM kd ++ [("a" : Str), "b", "c", toldM kd]
def spKinds : Sp := fun vs H Q _ => vs = [] ∧ ∀ p H', Same H H' → H' p = some (.lst (kindsL.map V.str)) → Q (.ref p) H'
def spGoal : Sp := fun vs H Q _ => ∃ kd : Str, vs = [.str kd] ∧ kd ∈ kindsL ∧ ∀ H', Same H H' → Q (.str (toldM kd)) H'
def spLNames : Sp := fun vs H Q _ => ∃ kd : Str, vs = [.str kd] ∧ kd ∈ kindsL ∧ ∀ p H', Same H H' → H' p = some (.lst ((namesL kd).map V.str)) → Q (.ref p) H'
section
variable {P : Program} {w : World} {K : PySem.W.Frag} {mg : Str → Option Value} {base : Heap}
theorem scKinds : FnScope [] [] (defScope sKinds) := ⟨rfl, rfl, rfl, by decide +kernel, rfl, by decide +kernel, by decide +kernel⟩
theorem ok_kinds {f : Addr} {fd : FuncData} (F : Fun K "_law_kinds" "_law_kinds" sKinds f fd) : FnOk P w K mg base CX0 1 f fd [] spKinds := by
  refine F.ok scKinds (fun vs H Q E h => ?_) (fun cdv A outer s H vs Q E hr h => ?_)
  · obtain ⟨rfl, _⟩ := h
    rfl
  · obtain ⟨rfl, k⟩ := h
    refine ⟨_, pss_one (ps_ret (pe_lst (pa_cons pe_str (pa_cons pe_str (pa_cons pe_str (pa_cons pe_str (pa_cons pe_str (pa_cons pe_str (pa_cons pe_str (pa_cons pe_str (pa_cons pe_str pa_nil))))))))))), ?_⟩
    exact ⟨(by show 9 ≤ sizeLine; decide), fun p np => k p _ (Same.new np) upd_same⟩
theorem scGoal : FnScope ["_law_kind"] ["_law_kind"] (defScope sGoal) := ⟨rfl, rfl, rfl, by decide +kernel, rfl, by decide +kernel, by decide +kernel⟩
theorem upd2 {H : Hp} {p : Addr} {o u : HO} : upd (upd H p o) p u = upd H p u := by
  funext q
  by_cases e : q = p
  · rw [e, upd_same, upd_same]
  · rw [upd_ne e, upd_ne e, upd_ne e]
theorem ok_goal {f : Addr} {fd : FuncData} (F : Fun K "_law_goal" "_law_goal" sGoal f fd) : FnOk P w K mg base CX0 1 f fd ["_law_kind"] spGoal := by
  refine F.ok scGoal (fun vs H Q E h => ?_) (fun cdv A outer s H vs Q E hr h => ?_)
  · obtain ⟨kd, rfl, _⟩ := h
    rfl
  · obtain ⟨kd, rfl, hk, k⟩ := h
    have hu := hu_of hr
    refine ⟨_, pss_one (ps_ret (pe_dget2 hu (pe_disp (pps_cons pe_str pe_str (pps_cons pe_str pe_str (pps_cons pe_str pe_str (pps_cons pe_str pe_str pps_nil)))) (by rfl) (by rfl) (fun z => by cases z) (by decide)) (pv 0) pe_str ⟨rfl, rfl, rfl, rfl⟩)), ?_⟩
    intro p np
    refine ⟨upd_same, goalD, rfl, by decide, p, rfl, .inl ⟨_, .inl upd_same⟩, _, rfl, _, DGet.k (k := Sum.inr kd) upd_same, ?_⟩
    rw [goal_at kd hk, upd2]
    exact k _ (Same.new np)
theorem scLNames : FnScope ["_law_kind", "_law_found"] ["_law_kind"] (defScope sLNames) := ⟨rfl, rfl, rfl, by decide +kernel, rfl, by decide +kernel, by decide +kernel⟩
theorem ok_lnames {f fG : Addr} {fd fdG : FuncData} (F : Fun K "_law_names" "_law_names" sLNames f fd)
    (GG : FnOk P w K mg base CX0 1 fG fdG ["_law_kind"] spGoal) (kG : PySem.W.keepIn K (.ref fG) = true) (bG : Binds K fdG ["_law_kind"] []) (gG : mg "_law_goal" = some (.ref fG)) : FnOk P w K mg base CX0 2 f fd ["_law_kind"] spLNames := by
  refine F.ok scLNames (fun vs H Q E h => ?_) (fun cdv A outer s H vs Q E hr h => ?_)
  · obtain ⟨kd, rfl, _⟩ := h
    rfl
  · obtain ⟨kd, rfl, hk, k⟩ := h
    have hu := hu_of hr
    have hr1 : Room 1 _ := hr.mono (by decide)
    refine ⟨_, pss_cons (ps_set (i := 1) scLNames.nd rfl (.inl rfl) (pe_dget2 hu (pe_disp (pps_cons pe_str (pe_lst (pa_cons pe_str (pa_cons pe_str (pa_cons pe_str pa_nil)))) (pps_cons pe_str (pe_lst (pa_cons pe_str pa_nil)) pps_nil)) (by rfl) (by rfl) (fun z => by cases z) (by decide)) (pv 0) (pe_lst (pa_cons pe_str pa_nil)) ⟨rfl, rfl, rfl, rfl⟩))
      (pss_one (ps_ret (pe_op op_cat (pv 1) (pe_lst (pa_cons pe_str (pa_cons pe_str (pa_cons pe_str (pa_cons (pe_call GG hr1 rfl gG kG bG .nil pass0 (pa_cons (pv 0) pa_nil)) pa_nil)))))))), ?_⟩
    intro p np
    have s1 := Same.new (o := .dK []) np
    refine ⟨(by show 3 ≤ sizeLine; decide), fun l1 n1 => ?_⟩
    have p1 : p ≠ l1 := fun e => by rw [← e, upd_same] at n1; cases n1
    refine ⟨(by show 1 ≤ sizeLine; decide), fun l2 n2 => ?_⟩
    have s2 := Same.new (o := .lst [V.str "size", V.str "used", V.str "ahead"]) n1
    have s3 := Same.new (o := .lst [V.str "n"]) n2
    have p2 : p ≠ l2 := fun e => by
      have := s2 _ _ (upd_same (H := H) (a := p) (o := .dK []))
      rw [← e, this] at n2
      cases n2
    have l12 : l1 ≠ l2 := fun e => by rw [← e, upd_same] at n2; cases n2
    obtain ⟨D, hD⟩ : ∃ D : List (Key × V), D = [(Sum.inr ("make" : Str), V.ref l1), (Sum.inr ("round" : Str), V.ref l2)] := ⟨_, rfl⟩
    have hDl : D.length ≤ 15 := by rw [hD]; show 2 ≤ 15; decide
    obtain ⟨G0, hG0⟩ : ∃ G0, G0 = upd (upd (upd H p (.dK [])) l1 (.lst [V.str "size", V.str "used", V.str "ahead"])) l2 (.lst [V.str "n"]) := ⟨_, rfl⟩
    have g1 : G0 l1 = some (.lst [V.str "size", V.str "used", V.str "ahead"]) := by
      rw [hG0, upd_ne l12]
      exact upd_same
    have g2 : G0 l2 = some (.lst [V.str "n"]) := by
      rw [hG0]
      exact upd_same
    have s0 : Same H G0 := by
      rw [hG0]
      exact s1.trans (s2.trans s3)
    refine ⟨by rw [upd_ne p2, upd_ne p1]; exact upd_same, D, by rw [hD]; rfl, hDl, ?_⟩
    show (fun x H1 => _) (V.ref p) (upd (upd (upd (upd H p (.dK [])) l1 (.lst [V.str "size", V.str "used", V.str "ahead"])) l2 (.lst [V.str "n"])) p (.dK (mergeK [] D)))
    rw [← hG0]
    have hm : mergeK [] D = D := by
      rw [hD]
      rfl
    rw [hm]
    have s4 : Same H (upd G0 p (.dK D)) := Same.write s0 np
    refine ⟨p, rfl, .inl ⟨_, .inl upd_same⟩, _, rfl, (by show 1 ≤ sizeLine; decide), fun l3 n3 => ?_⟩
    have s5 := s4.trans (Same.new (o := .lst [V.str "word"]) n3)
    have p3 : p ≠ l3 := fun e => by rw [← e, upd_same] at n3; cases n3
    have gD : (upd (upd G0 p (.dK D)) l3 (.lst [V.str "word"])) p = some (.dK D) := by
      rw [upd_ne p3]
      exact upd_same
    refine ⟨_, DGet.k (k := Sum.inr kd) gD, ?_⟩
    obtain ⟨q, hq, gq⟩ : ∃ q, (valV D (Sum.inr kd)).getD (V.ref l3) = V.ref q ∧ (upd (upd G0 p (.dK D)) l3 (.lst [V.str "word"])) q = some (.lst ((handedM kd).map V.str)) := by
      by_cases e1 : kd = "make"
      · subst e1
        refine ⟨l1, by rw [hD]; rfl, ?_⟩
        rw [upd_ne (fun e => by rw [← e, upd_ne p1.symm, g1] at n3; cases n3), upd_ne p1.symm, g1]
        rfl
      by_cases e2 : kd = "round"
      · subst e2
        refine ⟨l2, by rw [hD]; rfl, ?_⟩
        rw [upd_ne (fun e => by rw [← e, upd_ne p2.symm, g2] at n3; cases n3), upd_ne p2.symm, g2]
        rfl
      · have e3 : valV D (Sum.inr kd) = none := by
          rw [hD]
          have a1 : ¬ (Sum.inr ("make" : Str) : Key) = Sum.inr kd := fun z => e1 (Sum.inr.inj z).symm
          have a2 : ¬ (Sum.inr ("round" : Str) : Key) = Sum.inr kd := fun z => e2 (Sum.inr.inj z).symm
          simp [valV, a1, a2]
        rw [e3]
        refine ⟨l3, rfl, ?_⟩
        rw [upd_same]
        unfold handedM
        rw [if_neg e1, if_neg e2]
        rfl
    rw [hq]
    obtain ⟨G1, hG1⟩ : ∃ G1, G1 = upd (upd G0 p (.dK D)) l3 (.lst [V.str "word"]) := ⟨_, rfl⟩
    rw [← hG1] at gq s5 ⊢
    refine ⟨_, rfl, _, rfl, kd, rfl, hk, fun G2 s6 => ?_⟩
    refine ⟨(by show 4 ≤ sizeLine; decide), fun l4 n4 => ?_⟩
    have s7 := Same.new (o := .lst [V.str "a", V.str "b", V.str "c", V.str (toldM kd)]) n4
    have hl : (handedM kd).length ≤ 3 := by
      unfold handedM
      split
      · exact Nat.le_refl _
      split
      · decide
      · decide
    refine ⟨q, l4, _, _, rfl, rfl, s7 _ _ (s6 _ _ gq), upd_same, Nat.le_of_lt (small1000 (by rw [List.length_map]; show _ + 4 ≤ 1000; omega)), fun p9 np9 => ?_⟩
    refine k p9 _ (((s5.trans s6).trans s7).trans (Same.new np9)) ?_
    unfold namesL
    rw [List.map_append]
    exact upd_same
end
end K02

set_option Elab.async false
set_option linter.all false
set_option maxRecDepth 100000
set_option maxHeartbeats 8000000
/-! k02, the law: what a head code tells of lines -/
namespace L2
open PySem
theorem FnOk.or {P : Program} {w : World} {K : PySem.W.Frag} {mg : Str → Option Value} {base : Heap} {CX : CXT} {k : Nat} {f : Addr} {fd : FuncData} {ps : List Str} {s1 s2 : Sp}
    (a : FnOk P w K mg base CX k f fd ps s1) (b : FnOk P w K mg base CX k f fd ps s2) : FnOk P w K mg base CX k f fd ps fun vs H Q E => s1 vs H Q E ∨ s2 vs H Q E :=
  ⟨fun vs H Q E h => h.elim (a.len vs H Q E) (b.len vs H Q E), fun A outer s H args us vs Q E hr e0 hb r h => h.elim (a.run A outer s H args us vs Q E hr e0 hb r) (b.run A outer s H args us vs Q E hr e0 hb r)⟩
section
variable {X : Cx} {CX : CXT} {k : Nat} {f C : Addr} {fd : FuncData} {ps : List Str} {sp : Sp} {E : St → XK} {x m : Str} {p pos apos : Pos} {e o : Expr} {es : List Expr} {ta : TE} {t : TA}
def tMakeS (C : Addr) (sp : Sp) (E : St → XK) (t : TA) : TE := fun σ H Q => t σ H fun vs H1 => ∀ x dx, H1 x = none → H1 dx = none → dx ≠ x →
  sp (.ref x :: vs) (upd (upd H1 dx (.own x)) x (.ins C dx [])) (fun v H2 => v = .non ∧ Q (.ref x) H2) (E σ)
theorem run_makeS {pins : List (Addr × Obj)} {σ : St} {H : Hp} {s : Shared} {Q : VK} {us : List Value} {vs : List V} (M : Mk X.K C f) (F : FnOk X.prog X.w X.K X.mg X.base CX k f fd ps sp) (hr : Room (k + 1) X.A) (hb : Binds X.K fd ps [])
    (hx : PassesAt CX X σ (E σ)) (I : Inv X pins σ H s) (r : Vals vs us)
    (h : ∀ x dx, H x = none → H dx = none → dx ≠ x → sp (.ref x :: vs) (upd (upd H dx (.own x)) x (.ins C dx [])) (fun v H2 => v = .non ∧ Q (.ref x) H2) (E σ)) :
    wpAny (model X.prog X.w) X.A (call (.ref C) us) (EP X pins σ Q) X.xe s := by
  have hq := h (s.heap.objs.size + 1) s.heap.objs.size (I.hok.fresh (Nat.le_succ _)) (I.hok.fresh (Nat.le_refl _)) (Nat.ne_of_lt (Nat.lt_succ_self _))
  have I2 := Inv.made (C := C) I
  have r2 : Vals (V.ref (s.heap.objs.size + 1) :: vs) (Value.ref (s.heap.objs.size + 1) :: us) := .cons rfl r
  have hl : (Value.ref (s.heap.objs.size + 1) :: us).length = ps.length := by
    have e := r2.length
    rw [F.len _ _ _ _ hq] at e
    exact e.symm
  have b := hb _ (Value.ref (s.heap.objs.size + 1) :: us) I2.kIn (by rw [List.append_nil]; exact hl)
  rw [List.append_nil] at b
  refine wpAny_call (make_map (f := f) I.kIn M.makes M.init (beq_iff_eq.mp M.fn) (codeAny_mono (F.run _ X.stack _ _ ⟨Value.ref (s.heap.objs.size + 1) :: us, []⟩ (Value.ref (s.heap.objs.size + 1) :: us) _ _ (E σ) (hr.make C us [])
    (I2.env0.make C us []) b r2 hq) fun r s' hq' => ?_))
  cases r with
  | error e => exact hx pins _ _ e s' I2 hq'
  | ok fl =>
    cases fl with
    | ret u =>
      obtain ⟨v, H', I3, rv, ev, q3⟩ := I2.after hq'
      subst ev
      exact ⟨rv, ⟨V.ref (s.heap.objs.size + 1), H', I3, rfl, q3⟩⟩
    | next => exact False.elim hq'
    | brk => exact False.elim hq'
    | cont => exact False.elim hq'
theorem pe_makeS (M : Mk X.K C f) (F : FnOk X.prog X.w X.K X.mg X.base CX k f fd ps sp) (hr : Room (k + 1) X.A) (hg : Gl X x) (hm : X.mg x = some (.ref C)) (hb : Binds X.K fd ps []) (hx : ∀ σ, PassesAt CX X σ (E σ))
    (ha : PA X (e :: es) t) (hdb : (x == ("__debug__" : Str)) = false := by decide) (he : starEach (e :: es) X.env = (false, eval e X.env) :: starEach es X.env := by rfl) (hpl : (backTo pos (starEach es X.env)).any (·.1) = false := by rfl) :
    PE X (.Call (.Name x p) (e :: es) [] pos) (tMakeS C sp E t) := by
  refine ⟨fun pins s σ H Q I h => ?_⟩
  refine wpAny_Call_Name_kw (ld_glob I hg hm ?_ hdb)
  refine PySem.W.callWith_K (h₀ := X.base) I.ok.mod.kin M.kp (thn (ha.run pos pins s σ H _ I h) fun us s1 ⟨vs, H1, I1, r, q⟩ => ⟨I1.kIn, ?_⟩) he hpl
  exact run_makeS M F hr hb (hx σ) I1 r q
end
end L2
namespace K02
open PySem L2
abbrev nmTold : List Str := ["_law_kind", "_law_lines", "e"]
theorem scTold : FnScope nmTold ["_law_kind", "_law_lines"] (defScope sTold) := ⟨rfl, rfl, rfl, by decide +kernel, rfl, by decide +kernel, by decide +kernel⟩
/-- rows that are read without a word against them -/
def GoodRows (kd : Str) (rows : List Str) : Prop := ∃ (sts : List St) (tg : List V) (R : Nat → List (List Nat)), readGo kd rows [] [] = some (sts, []) ∧ sts.countP isIf ≤ 4 ∧ tgM sts = some tg ∧ RunEq sts tg R ∧ (R 0).length ≤ 900 ∧ ∀ w ∈ R 0, faultM sts w = none
def spTold (K : PySem.W.Frag) : Sp := fun vs H Q _ => ∃ (L : Addr) (kd : Str) (rows : List Str), vs = [.str kd, .ref L] ∧ SqL K H L (rows.map V.str) ∧ kd ∈ kindsL ∧ rows.length ≤ 20 ∧ (∀ r ∈ rows, RowOk r) ∧
  (rows.map (·.length)).sum + rows.length * ("\n" : Str).length ≤ 16777216 ∧ (Txt.join "\n" rows).length + 2 ≤ sizeLine ∧ linesM (Txt.join "\n" rows) = rows ∧
  ((∃ n, badGo kd rows 0 [] = some n ∧ ∀ H', Same H H' → Q (.int (n : Nat)) H') ∨ (GoodRows kd rows ∧ ∀ H', Same H H' → Q (.int 0) H'))
abbrev rJoin (K : PySem.W.Frag) : V → List V → Hp → VK → Prop := fun x xs H Q => ∃ a p, ∃ ys : List Str, x = .str a ∧ xs = [.ref p] ∧ (SqL K H p (ys.map V.str) ∨ SqT K H p (ys.map V.str)) ∧ (ys.map (·.length)).sum + ys.length * a.length ≤ 16777216 ∧ Q (.str (Txt.join a ys)) H
section
variable {P : Program} {w : World} {K : PySem.W.Frag} {mg : Str → Option Value} {base : Heap}
theorem ok_told {f fH C CR CB : Addr} {fd fdH : FuncData} (F : Fun K "_law_told" "_law_told" sTold f fd)
    (M : Mk K C fH) (GH : FnOk P w K mg base (L2.CX P w) 8 fH fdH ["self", "kind", "text"] (spHI K C CR)) (GB : FnOk P w K mg base (L2.CX P w) 8 fH fdH ["self", "kind", "text"] (spHIBad K C CB)) (bH : Binds K fdH ["self", "kind", "text"] []) (gH : mg "HeadCode" = some (.ref C))
    (gB : mg "BadLine" = some (.ref CB)) (gR : mg "Refused" = some (.ref CR)) (xm : PySem.W.exmOne K (.ref CB) (.ref CB) = some true) (xf : XfC K CB) (nl : PySem.W.findIn K (.ref CB) "line" = some none) :
    FnOk P w K mg base CX0 10 f fd ["_law_kind", "_law_lines"] (spTold K) := by
  refine F.ok scTold (fun vs H Q E h => ?_) (fun cdv A outer s H vs Q E hr h => ?_)
  · obtain ⟨L, kd, rows, rfl, _⟩ := h
    rfl
  · obtain ⟨L, kd, rows, rfl, hL, hk, hl, hrow, hs, hj, hlm, h⟩ := h
    have hr9 : Room 9 _ := hr.mono (by decide)
    refine ⟨_, pss_cons (ps_try_mixed (i := 2) rfl rfl scTold.nd rfl rfl takes0
        (fun W pn xe tk _ => pss_one (ps_expr (by exact (pe_makeS (t := tCons (tVar 0) (tCons (tM1 (rJoin K) (tC (.str "\n")) (tVar 1)) tNil)) M (GH.or GB) hr9 rfl gH bH (fun σ => passAt tk σ) (by exact (pa_cons (pv 0) (pa_cons (by exact (pe_join pe_str (pv 1))) pa_nil)))))))
        (.named ⟨rfl, by decide, Or.inl gB⟩ (fun e oe cls d pn hz hf => pss_one (ps_ret (by exact (pe_xf xf nl hz hf (pv 2)))))
        (.bare ⟨rfl, by decide, Or.inl gR⟩ (fun e oe cls d pn hz hf => pss_one (ps_ret (by exact (pe_un un_neg pe_int)))) .nil)))
      (pss_one (ps_ret pe_int)), ?_⟩
    refine ⟨_, rfl, ⟨_, rfl⟩, _, rfl, ("\n" : Str), L, rows, rfl, rfl, .inl hL, hs, fun p dx np ndx ne => ?_⟩
    have sP : Same H (upd (upd H dx (.own p)) p (.ins C dx [])) := (Same.new (o := .own p) ndx).trans (Same.new (o := .ins C dx []) (by rw [upd_ne ne.symm]; exact np))
    rcases h with ⟨n, hb, k⟩ | ⟨⟨sts, tg, R, hgo, hif, htg, hR, hRl, hno⟩, k⟩
    · refine .inr ⟨p, dx, Txt.join "\n" rows, kd, rows, n, rfl, upd_same, hk, hj, hlm, hl, hrow, hb, fun d G5 b5 hd gd => ?_⟩
      have s5 := But.fresh sP b5 np
      refine ⟨true, xm, fun _ e he => ?_, fun z => Bool.noConfusion z⟩
      refine ⟨_, rfl, rfl, rfl, d, _, _, rfl, gd, (show List.lookup ("line" : Str) [(("line" : Str), V.int (n : Nat))] = some (V.int (n : Nat)) by kernel_rfl), ?_⟩
      exact k _ s5
    · refine .inl ⟨p, dx, Txt.join "\n" rows, kd, rows, sts, tg, R, rfl, upd_same, hk, hj, hlm, hl, hrow, hgo, hif, htg, hR, hRl, fun _ G5 b5 => ⟨rfl, ?_⟩, fun m hex => ?_⟩
      · exact k _ (But.fresh sP b5 np)
      · obtain ⟨w0, hw0, e0⟩ := hex
        rw [hno w0 hw0] at e0
        cases e0
end
end K02

set_option Elab.async false
set_option linter.all false
set_option maxRecDepth 100000
set_option maxHeartbeats 8000000
/-! k02, the law: numbers -/
namespace K02
open PySem L2
open K02D (TxtB BagAt spBag spDraw)
def digs : Str := "0123456789"
def oneS (c : Nat) : Str := ⟨#[c]⟩
def digC (c : Nat) : Bool := !(Builtin.Str.occurrences digs (oneS c) 0 digs.length 1).isEmpty
def badCs (l : List Nat) : List Str := (l.filter fun c => !digC c).map oneS
def plainB (w : Str) : Bool := !decide (w = "") && w.cps.toList.all digC
def numL (w : Str) : Int := if plainB w = true ∧ w.length ≤ 30 ∧ (w = "0" ∨ oneS (w.cps.toList.getD 0 0) ≠ "0") then (intText? w).getD 0 else -1
structure LOk (w : Str) : Prop where
  ok : WOk w
  dg : plainB w = Txt.isdigit w
def spLNum : Sp := fun vs H Q _ => ∃ w : Str, vs = [.str w] ∧ LOk w ∧ ∀ H', Same H H' → Q (.int (numL w)) H'
theorem badCs_nil (l : List Nat) : decide (badCs l = []) = l.all digC := by
  unfold badCs
  induction l with
  | nil => rfl
  | cons c r ih =>
    rw [List.filter_cons, List.all_cons]
    cases e : digC c with
    | true =>
      rw [if_neg (by simp)]
      rw [ih]
      rfl
    | false =>
      rw [if_pos (by simp)]
      rfl
theorem one_ok {l : List Nat} (h : l.all (· < 0x110000) = true) : PyData.canLayAll0 ((badCs l).map PyData.str) = true := by
  induction l with
  | nil => rfl
  | cons c r ih =>
    rw [List.all_cons, Bool.and_eq_true] at h
    have ih' := ih h.2
    unfold badCs at ih' ⊢
    rw [List.filter_cons]
    cases e : digC c with
    | true =>
      rw [if_neg (by simp)]
      exact ih'
    | false =>
      rw [if_pos (by simp), List.map_cons, List.map_cons, PyData.canLayAll0, Bool.and_eq_true]
      refine ⟨?_, ih'⟩
      show PyData.canLay0 (.str (oneS c)) = true
      rw [PyData.canLay0]
      have h1 := h.1
      have e1 : PyData.strOk (oneS c) = decide (c < 0x110000) := by
        unfold PyData.strOk oneS
        simp
      rw [e1]
      exact h1
theorem shapedBad {w : Str} (h : PyData.canLay0 (.str w) = true) : SeqAt.shaped (.list ((badCs w.cps.toList).map PyData.str)) = true := by
  have h1 : w.cps.toList.all (· < 0x110000) = true := by
    rw [PyData.canLay0] at h
    unfold PyData.strOk at h
    rw [← Array.all_toList] at h
    exact h
  unfold SeqAt.shaped
  have a1 : (PyData.list ((badCs w.cps.toList).map PyData.str)).canLay0 = true := by
    rw [PyData.canLay0]
    exact one_ok h1
  have a2 : (PyData.list ((badCs w.cps.toList).map PyData.str)).depth ≤ 64 := by
    simp only [PyData.depth, depAll]
    decide
  rw [a1, decide_eq_true a2]
  rfl
theorem bad_more {l : List Nat} {i c : Nat} (h : l[i]? = some c) : badCs (l.take (i + 1)) = if digC c = true then badCs (l.take i) else badCs (l.take i) ++ [oneS c] := by
  unfold badCs
  rw [take_more h, List.filter_append, List.map_append, List.filter_cons]
  cases e : digC c with
  | true =>
    rw [if_neg (by simp), if_pos rfl]
    simp
  | false =>
    rw [if_pos (by simp), if_neg Bool.false_ne_true]
    rfl
theorem iteF' {b : Bool} {p q : Prop} (h : b = false) (x : q) : if b = true then p else q := by
  rw [h, if_neg Bool.false_ne_true]
  exact x
theorem iteT' {b : Bool} {p q : Prop} (h : b = true) (x : p) : if b = true then p else q := by
  rw [h, if_pos rfl]
  exact x
section
variable {P : Program} {w : World} {K : PySem.W.Frag} {mg : Str → Option Value} {base : Heap}
abbrev nmLNum : List Str := ["_law_piece", "_law_plain", "_law_sign"]
theorem scLNum : FnScope nmLNum ["_law_piece"] (defScope sLNum) := ⟨rfl, rfl, rfl, by decide +kernel, rfl, by decide +kernel, by decide +kernel⟩
theorem ok_lnum {f : Addr} {fd : FuncData} (F : Fun K "_law_number" "_law_number" sLNum f fd) (T : TxtB mg) : FnOk P w K mg base CX0 1 f fd ["_law_piece"] spLNum := by
  refine F.ok scLNum (fun vs H Q E h => ?_) (fun cdv A outer s H vs Q E hr h => ?_)
  · obtain ⟨x, rfl, _⟩ := h
    rfl
  · obtain ⟨x, rfl, hx, k⟩ := h
    have hz : x.length ≤ sizeLine := Nat.le_of_lt (small1000 hx.ok.len)
    obtain ⟨tE, pE, rE⟩ : ∃ tE, PSs (cxOf CX0 P w K mg base nmLNum "_law_number" (defScope sLNum) f cdv A outer s H E).nox ((defBody sLNum).drop 1) tE ∧
        ∀ (D : Ends) (G : Hp) (b : Bool), Same H G → b = plainB x → (∀ n H', Same H H' → n = numL x → D.rt (.int n) H') → tE D [some (.str x), some (.bl b), none] G := by
      refine ⟨_, pss_one (ps_ret (pe_ifExp (PW.pt (pw_and (pt_val (pv 1)) (pw_and (pt_cmpR op_le (pe_callB call_len_str (by rfl) T.len PySem.boot_len (pa_cons (pv 0) pa_nil)) pe_int (nomark _)) (pw_and1 (PW.pt (pw_or (pt_cmpR op_eq (pv 0) pe_str (nomark _)) (pw_or1 (pt_cmpR op_ne (pe_ix ix_str (pv 0) pe_int (fun _ _ => rfl)) pe_str (nomark _)))))))))
        (pe_callTy call_int_str (by rfl) T.int (by decide +kernel) (pa_cons (pv 0) pa_nil)) (pe_un un_neg pe_int))), ?_⟩
      intro D G b sG hb hrt
      refine ⟨_, rfl, _, rfl, ?_⟩
      have neg : numL x = -1 → D.rt (.int (-1)) G := fun e => hrt _ _ sG e.symm
      cases b with
      | false =>
        refine iteF ?_
        refine ⟨_, rfl, ?_⟩
        refine neg ?_
        unfold numL
        rw [← hb, if_neg (fun z => Bool.noConfusion z.1)]
      | true =>
        refine iteT ?_
        have hd : Txt.isdigit x = true := by rw [← hx.dg]; exact hb.symm
        have hne : x ≠ "" := fun z => by
          unfold plainB at hb
          rw [decide_eq_true z] at hb
          cases hb
        refine ⟨_, rfl, x, rfl, hz, _, _, rfl, rfl, _, rfl, ?_⟩
        by_cases h30 : x.length ≤ 30
        case neg =>
          refine ifF3 (decide_eq_false (by omega)) ?_
          refine ⟨_, rfl, ?_⟩
          refine neg ?_
          unfold numL
          rw [if_neg (fun z => h30 z.2.1)]
        refine ifT3 (decide_eq_true (by omega)) ?_
        obtain ⟨n, hn⟩ := hx.ok.num hd h30
        have pos : (x = "0" ∨ oneS (x.cps.toList.getD 0 0) ≠ "0") → numL x = n := fun z => by
          unfold numL
          rw [if_pos ⟨hb.symm, h30, z⟩, hn]
          rfl
        refine ⟨_, rfl, rfl, _, rfl, ?_⟩
        by_cases h0 : x = "0"
        · refine ifT3 (decide_eq_true (congrArg V.str h0)) ?_
          exact ⟨_, rfl, x, n, rfl, hn, by omega, hrt _ _ sG (pos (.inl h0)).symm⟩
        · refine ifF3 (decide_eq_false fun z => h0 (V.str.inj z)) ?_
          have hpos : 0 < x.cps.toList.length := by
            rcases Nat.eq_zero_or_pos x.cps.toList.length with z | z
            · exfalso
              refine hne ?_
              have t : TL.tl x = [] := List.length_eq_zero_iff.mp z
              have h2 := TL.map_tl_inj (l := [x]) (m := [("" : Str)]) (by rw [List.map_cons, List.map_cons, t]; rfl)
              exact (List.cons.inj h2).1
            · exact z
          refine ⟨_, rfl, x, 0, x.cps.toList.getD 0 0, rfl, rfl, hz, atI_nat (j := 0) (by rw [List.getD_eq_getElem?_getD, List.getElem?_eq_getElem hpos]; rfl), rfl, _, rfl, ?_⟩
          by_cases hz0 : oneS (x.cps.toList.getD 0 0) = "0"
          · refine ifF3 (show (!decide (V.str (oneS (x.cps.toList.getD 0 0)) = V.str "0")) = false by rw [decide_eq_true (congrArg V.str hz0)]; rfl) ?_
            refine ⟨_, rfl, ?_⟩
            refine neg ?_
            unfold numL
            rw [if_neg (fun z => z.2.2.elim h0 fun y => y hz0)]
          · refine ifT3 (show (!decide (V.str (oneS (x.cps.toList.getD 0 0)) = V.str "0")) = true by rw [decide_eq_false fun z => hz0 (V.str.inj z)]; rfl) ?_
            exact ⟨_, rfl, x, n, rfl, hn, by omega, hrt _ _ sG (pos (.inr hz0)).symm⟩
    refine ⟨_, pss_cons (ps_set (i := 1) scLNum.nd rfl (.inl rfl) (pe_and (pe_cmpR op_ne (pv 0) pe_str (nomark _)) (pe_one (pe_cmpR (op_eqD hr.units) (pe_lc (own := [("_law_sign", 2)]) (g := gName 2) rfl scLNum.nd (by exact pi_str (pv 0)) (blkOk_by (own := [("_law_sign", 2)]) (N := nmLNum) (sc := defScope sLNum) (by decide +kernel)) (fun _ _ _ _ _ => pg_name (i := 2) scLNum.nd rfl (Or.inl rfl)) (fun _ _ _ _ _ => pts_one (pt_cmpR op_notIn_str (pv 2) pe_str (by rfl))) (fun _ _ _ _ _ => pv 2)) (pe_lst pa_nil) (nomark _))))) pE, ?_⟩
    refine ⟨_, rfl, rfl, _, rfl, ?_⟩
    by_cases he : x = ""
    · refine ifF3 (show (!decide (V.str x = V.str "")) = false by rw [decide_eq_true (congrArg V.str he)]; rfl) ?_
      exact rE _ _ false (Same.refl _) (by unfold plainB; rw [decide_eq_true he]; rfl) (fun n H' s e => by rw [e]; exact k H' s)
    · refine ifT3 (show (!decide (V.str x = V.str "")) = true by rw [decide_eq_false fun z => he (V.str.inj z)]; rfl) ?_
      refine ⟨_, rfl, x, rfl, fun D nD => ?_⟩
      refine lc_it (walk_str (z := x)) (fun i G => Same H G ∧ G D = some (.lst ((badCs (x.cps.toList.take i)).map V.str))) ⟨Same.new nD, upd_same⟩ (fun _ _ _ _ => trivial) ?_ ?_
      · rintro i y G G' hi ⟨sG, gD⟩ ⟨rfl, c, hc, rfl⟩
        have hcl : x.cps.toList[i]? = some c := by rw [Array.getElem?_toList]; exact hc
        have more := bad_more hcl
        refine ⟨rfl, ?_⟩
        refine ⟨_, rfl, _, _, rfl, rfl, _, rfl, ?_⟩
        have hlen : (badCs (x.cps.toList.take i)).length ≤ 1000 := by
          unfold badCs
          rw [List.length_map]
          refine Nat.le_trans (List.length_filter_le _ _) ?_
          rw [List.length_take]
          have := hx.ok.len
          have e : x.length = x.cps.toList.length := rfl
          omega
        cases hd : digC c with
        | true =>
          rw [hd, if_pos rfl] at more
          rw [more]
          refine iteF' (show (!digC c) = false by rw [hd]; rfl) ?_
          exact ⟨sG, gD⟩
        | false =>
          rw [hd, if_neg Bool.false_ne_true] at more
          refine iteT' (show (!digC c) = true by rw [hd]; rfl) ?_
          refine ⟨_, rfl, _, gD, small1000 (by rw [List.length_map]; exact hlen), Same.write sG nD, ?_⟩
          rw [more, List.map_append]
          exact upd_same
      · rintro G ⟨sG, gD⟩
        rw [show x.cps.size = x.cps.toList.length from rfl, List.take_length] at gD
        refine ⟨(by show 0 ≤ sizeLine; decide), fun D2 nD2 => ?_⟩
        have s2 := Same.new (o := .lst []) nD2
        refine ⟨.list ((badCs x.cps.toList).map PyData.str), .list (([] : List Str).map PyData.str), .lst (SqL.of (s2 _ _ gD)) (dpWs _), .lst (SqL.of (xs := ([] : List Str).map V.str) upd_same) (dpWs _), shapedBad hx.ok.sig, by decide +kernel, ?_⟩
        rw [eqvL, badCs_nil]
        refine rE _ _ _ (sG.trans s2) ?_ (fun n H' s e => by rw [e]; exact k H' s)
        unfold plainB
        rw [decide_eq_false he]
        rfl
end
end K02

set_option Elab.async false
set_option linter.all false
set_option maxRecDepth 100000
set_option maxHeartbeats 8000000
/-! k02, the law: runs -/
namespace K02
open PySem L2
open K02D (TxtB BagAt spBag spDraw)
def runGo : Nat → Nat → Nat → Nat → Nat → Nat × Nat
  | 0, _, ch, _, ma => (ch, ma)
  | f + 1, m, ch, la, ma => if m = 0 then (ch, ma) else runGo f (m / 2) (ch + if m % 2 = la then 0 else 1) (m % 2) (ma + 1)
def runL (n : Nat) : Bool := decide ((runGo 110 n 0 0 0).1 = 1) && decide ((runGo 110 n 0 0 0).2 ≤ 64)
def spLRun : Sp := fun vs H Q _ => ∃ n : Nat, vs = [.int (n : Int)] ∧ n < 2 ^ 110 ∧ ∀ H', Same H H' → Q (.bl (runL n)) H'
section
variable {P : Program} {w : World} {K : PySem.W.Frag} {mg : Str → Option Value} {base : Heap}
abbrev nmLRun : List Str := ["_law_number_here", "_law_changes", "_law_last", "_law_many"]
theorem scLRun : FnScope nmLRun ["_law_number_here"] (defScope sLRun) := ⟨rfl, rfl, rfl, by decide +kernel, rfl, by decide +kernel, by decide +kernel⟩
theorem ok_lrun {f : Addr} {fd : FuncData} (F : Fun K "_law_is_run" "_law_is_run" sLRun f fd) (T : TxtB mg) : FnOk P w K mg base CX0 1 f fd ["_law_number_here"] spLRun := by
  refine F.ok scLRun (fun vs H Q E h => ?_) (fun cdv A outer s H vs Q E hr h => ?_)
  · obtain ⟨x, rfl, _⟩ := h
    rfl
  · obtain ⟨n, rfl, hn, k⟩ := h
    refine ⟨_, pss_cons (ps_asg (pe_tup (pa_cons pe_int (pa_cons pe_int (pa_cons pe_int pa_nil)))) (pg_tup rfl (pgs_cons (pg_name (i := 1) scLRun.nd rfl (.inl rfl)) (pgs_cons (pg_name (i := 2) scLRun.nd rfl (.inl rfl)) (pgs_cons (pg_name (i := 3) scLRun.nd rfl (.inl rfl)) pgs_nil)))))
      (pss_cons (ps_while PassesOwn.never (pt_cmpR op_gt (pv 0) pe_int (nomark _))
        (pss_cons (ps_set (i := 1) scLRun.nd rfl (.inl rfl) (pe_op op_add (pv 1) (pe_callTy call_int1 (by rfl) T.int (by decide +kernel) (pa_cons (pe_cmpR op_ne (pe_op op_mod (pv 0) pe_int) (pv 2) (nomark _)) pa_nil))))
        (pss_one (ps_par3 (i := 2) (j := 0) (l := 3) rfl scLRun.nd rfl rfl rfl (by decide) (by decide) (by decide) rfl rfl rfl (pa_cons (pe_op op_mod (pv 0) pe_int) (pa_cons (pe_op op_fdiv (pv 0) pe_int) (pa_cons (pe_op op_add (pv 3) pe_int) pa_nil))) (by rfl)))))
      (pss_one (ps_ret (pe_and (pe_cmpR op_eq (pv 1) pe_int (nomark _)) (pe_one (pe_cmpR op_le (pv 3) pe_int (nomark _))))))), ?_⟩
    refine ⟨(by show 3 ≤ sizeLine; decide), fun t0 n0 => ?_⟩
    have s0 := Same.new (o := .tup [.int 0, .int 0, .int 0]) n0
    refine ⟨t0, _, rfl, SqT.of upd_same, rfl, _, _, rfl, _, _, rfl, _, _, rfl, rfl, ?_⟩
    refine while_by (fun σ G => ∃ f m ch la ma : Nat, σ = [some (.int (m : Int)), some (.int (ch : Int)), some (.int (la : Int)), some (.int (ma : Int))] ∧ Same H G ∧ m < 2 ^ f ∧ runGo f m ch la ma = runGo 110 n 0 0 0)
      (fun σ _ => match σ with
        | some (.int m) :: _ => m.toNat
        | _ => 0) ⟨110, n, 0, 0, 0, rfl, s0, hn, rfl⟩ ?_ ?_
    · rintro σ G ⟨f, m, ch, la, ma, rfl, sG, hf, hgo⟩
      refine ⟨_, rfl, _, _, rfl, rfl, _, rfl, ?_⟩
      by_cases h0 : m = 0
      · have c : decide ((0 : Int) < (m : Int)) = false := decide_eq_false (by omega)
        refine iteF' c ?_
        have hr2 : runGo f m ch la ma = (ch, ma) := by
          cases f with
          | zero => rfl
          | succ f =>
            show (if m = 0 then (ch, ma) else _) = (ch, ma)
            rw [if_pos h0]
        rw [hr2] at hgo
        have kk := k G sG
        unfold runL at kk
        rw [← hgo] at kk
        refine ⟨_, rfl, rfl, _, rfl, ?_⟩
        by_cases h1 : ch = 1
        · rw [decide_eq_true h1, Bool.true_and] at kk
          refine ifT3 (decide_eq_true (show V.int (ch : Int) = V.int 1 by rw [h1]; rfl)) ?_
          refine ⟨_, rfl, _, _, rfl, rfl, ?_⟩
          have e : decide ((ma : Int) ≤ 64) = decide (ma ≤ 64) := by
            by_cases h2 : ma ≤ 64
            · rw [decide_eq_true h2, decide_eq_true]
              omega
            · rw [decide_eq_false h2, decide_eq_false]
              omega
          rw [← e] at kk
          exact kk
        · rw [decide_eq_false h1, Bool.false_and] at kk
          refine ifF3 (decide_eq_false (show ¬ V.int (ch : Int) = V.int 1 from fun z => h1 (by have := V.int.inj z; omega))) ?_
          exact kk
      · have c : decide ((0 : Int) < (m : Int)) = true := decide_eq_true (by omega)
        refine iteT' c ?_
        cases f with
        | zero => omega
        | succ f =>
          have hgo' : runGo f (m / 2) (ch + if m % 2 = la then 0 else 1) (m % 2) (ma + 1) = runGo 110 n 0 0 0 := by
            rw [← hgo]
            show _ = (if m = 0 then (ch, ma) else runGo f (m / 2) (ch + if m % 2 = la then 0 else 1) (m % 2) (ma + 1))
            rw [if_neg h0]
          have e1 : (V.int ((m : Int) % 2) = V.int (la : Int)) ↔ m % 2 = la := by
            constructor
            · intro z
              have := V.int.inj z
              omega
            · intro z
              rw [← z]
              congr 1
          refine ⟨_, rfl, _, rfl, _, _, rfl, rfl, (by show (0 : Int) < 2; decide), _, rfl, rfl, .inr ⟨_, rfl, _, _, rfl, rfl, ?_⟩⟩
          refine ⟨_, rfl, _, _, rfl, rfl, (by show (0 : Int) < 2; decide), _, rfl, _, _, rfl, rfl, ⟨by decide, by decide⟩, _, rfl, _, _, rfl, rfl, _, _, _, rfl, ?_⟩
          refine ⟨⟨f, m / 2, ch + if m % 2 = la then 0 else 1, m % 2, ma + 1, ?_, sG, ?_, hgo'⟩, ?_⟩
          · have a2 : ((ma + 1 : Nat) : Int) = (ma : Int) + 1 := rfl
            have a3 : ((m / 2 : Nat) : Int) = (m : Int) / 2 := rfl
            have a4 : ((m % 2 : Nat) : Int) = (m : Int) % 2 := rfl
            rw [a2, a3, a4]
            show [some (V.int ((m : Int) / 2)), some (V.int ((ch : Int) + (if (!decide (V.int ((m : Int) % 2) = V.int (la : Int))) = true then (1 : Int) else 0))), some (V.int ((m : Int) % 2)), some (V.int ((ma : Int) + 1))] = _
            by_cases z : m % 2 = la
            · have a1 : ((ch + if m % 2 = la then 0 else 1 : Nat) : Int) = (ch : Int) + 0 := by
                rw [if_pos z]
                rfl
              have a5 : (if (!decide (V.int ((m : Int) % 2) = V.int (la : Int))) = true then (1 : Int) else 0) = 0 := by
                rw [decide_eq_true (e1.mpr z)]
                rfl
              rw [a1, a5]
            · have a1 : ((ch + if m % 2 = la then 0 else 1 : Nat) : Int) = (ch : Int) + 1 := by
                rw [if_neg z]
                rfl
              have a5 : (if (!decide (V.int ((m : Int) % 2) = V.int (la : Int))) = true then (1 : Int) else 0) = 1 := by
                rw [decide_eq_false fun y => z (e1.mp y)]
                rfl
              rw [a1, a5]
          · rw [Nat.pow_succ] at hf
            omega
          · show ((m : Int) / 2).toNat < ((m : Int)).toNat
            omega
    · intro σ G Q1 Q2 hq h
      obtain ⟨v, e1, i, j, e2, e3, kk, e4, q⟩ := h
      exact ⟨v, e1, i, j, e2, e3, kk, e4, hq _ _ q⟩
end
end K02

set_option Elab.async false
set_option linter.all false
set_option maxRecDepth 100000
set_option maxHeartbeats 8000000
/-! xs[lo::2] -/
namespace L2
open PySem PySem.Spec PyProof.Rows
def stepIx (lo : Int) (n : Nat) : List Nat := sliceRange (sliceBounds (some lo) none (some 2) n).1 (sliceBounds (some lo) none (some 2) n).2.1 (sliceBounds (some lo) none (some 2) n).2.2
def pickV (ix : List Nat) (xs : List V) : List V := ix.filterMap (xs[·]?)
theorem vals_pick {xs : List V} {us : List Value} (r : Vals xs us) : ∀ ix : List Nat, Vals (pickV ix xs) (ix.filterMap (us[·]?))
  | [] => .nil
  | i :: ix => by
    have ih := vals_pick r ix
    unfold pickV at ih ⊢
    rw [List.filterMap_cons, List.filterMap_cons]
    have hl := r.length
    by_cases h : i < xs.length
    · obtain ⟨x, hx⟩ : ∃ x, xs[i]? = some x := ⟨_, List.getElem?_eq_getElem h⟩
      obtain ⟨u, hu, ru⟩ := r.get hx
      rw [hx, hu]
      exact .cons ru ih
    · rw [List.getElem?_eq_none (by omega), List.getElem?_eq_none (by omega)]
      exact ih
def tStep2 (K : PySem.W.Frag) (lo : Int) (te : TE) : TE := fun σ H Q => te σ H fun x H1 => ∃ a xs, x = .ref a ∧ SqL K H1 a xs ∧ ∀ p, H1 p = none → Q (.ref p) (upd H1 p (.lst (pickV (stepIx lo xs.length) xs)))
section
variable {X : Cx}
theorem pe_step2 {e : Expr} {te : TE} {k k2 : Nat} {p0 p1 p3 pos : Pos} {lo : Int} (he : PE X e te) : PE X (.Subscript e (.Slice (some (.Constant (.int lo) k2 p0)) none (some (.Constant (.int 2) k p1)) p3) pos) (tStep2 X.K lo te) := by
  refine ⟨fun pins s σ H Q I h => ?_⟩
  refine Subscript_ (thn (he.run pins s σ H _ I h) fun v s1 ⟨x, H1, I1, r1, q1⟩ => ?_)
  obtain ⟨a, xs, ex, hx, q⟩ := q1
  subst ex
  cases r1
  have hst : PO X (some (.Constant (.int 2) k p1)) (tPart (tC (.int 2))) := po_some pe_int
  have hlo : PO X (some (.Constant (.int lo) k2 p0)) (tPart (tC (.int lo))) := po_some pe_int
  refine wpAny_Slice (thn (hlo.run pins s1 σ H1 (fun o H2 => o = some lo ∧ H2 = H1) I1 ⟨lo, rfl, rfl, rfl⟩) fun vl s2 ⟨l, H2, I2, pl, el, e2⟩ => ?_)
  subst el e2
  refine thn (po_none.run pins s2 σ H2 (fun o H3 => o = none ∧ H3 = H2) I2 ⟨rfl, rfl⟩) fun vu s3 ⟨u, H3, I3, pu, eu, e3⟩ => ?_
  subst eu e3
  refine thn (hst.run pins s3 σ H3 (fun o H4 => o = some 2 ∧ H4 = H3) I3 ⟨2, rfl, rfl, rfl⟩) fun vs s4 ⟨o, H4, I4, ps, eo, e4⟩ => ?_
  subst eo e4
  have I5 : Inv X pins σ H4 { s4 with heap := s4.heap.push { cls := .type "slice", data := .fields #[vl, vu, vs] } } := I4.kept (t' := s4.toks) fun b ob q => Heap.get?_push_of_some _ q
  obtain ⟨its, r, ht, hz⟩ := I5.list hx
  have hlen := r.length
  show wpAny (model X.prog X.w) X.A (subscriptTail e (.Slice (some (.Constant (.int lo) k2 p0)) none (some (.Constant (.int 2) k p1)) p3) (.ref a) (.ref s4.heap.objs.size)) (EP X pins σ Q) X.xe { s4 with heap := s4.heap.push { cls := .type "slice", data := .fields #[vl, vu, vs] } }
  refine tail_any (ops := [.ref a, .ref s4.heap.objs.size]) ht.isList.typeIs (PySem.slot_list_getitem.lookup) ?_ (by with_unfolding_all rfl)
  refine wpAny_getItem_list_slice ht.isList (Heap.IsSliceOf.new _ vl vu vs) pl pu ps (by decide) ?_ (by rw [List.size_toArray]; omega)
  have hsz : (slicePick its.toArray (some lo) none (some 2)).size ≤ its.toArray.size := slicePick_size_le _ _ _ _
  have e1 : slicePick its.toArray (some lo) none (some 2) = ((stepIx lo xs.length).filterMap (its[·]?)).toArray := by
    unfold slicePick stepIx
    rw [List.size_toArray, hlen]
    congr 1
    congr 1
    funext i
    exact List.getElem?_toArray
  rw [e1] at hsz ⊢
  have rv := vals_pick r (stepIx lo xs.length)
  refine ⟨.ref _, _, I5.laid (t' := s4.toks) (o := .lst (pickV (stepIx lo xs.length) xs)) (fun b ob q => Heap.get?_push_of_some _ q) (Nat.le_refl _) ?_, rfl, q _ (I5.hok.fresh (Nat.le_refl _))⟩
  refine ⟨?_, _, 0, rv, Heap.get?_push_size _ rfl⟩
  have := rv.length
  rw [List.size_toArray, List.size_toArray] at hsz
  omega
end
end L2

set_option Elab.async false
set_option linter.all false
set_option maxRecDepth 100000
set_option maxHeartbeats 8000000
/-! k02, the law: sums -/
namespace K02
open PySem L2
open K02D (TxtB BagAt spBag spDraw)
def pickS (ix : List Nat) (ws : List Str) : List Str := ix.filterMap (ws[·]?)
theorem pick_map (ix : List Nat) (ws : List Str) : pickV ix (ws.map V.str) = (pickS ix ws).map V.str := by
  unfold pickV pickS
  rw [List.map_filterMap]
  congr 1
  funext i
  rw [List.getElem?_map]
def signB (ss : List Str) : List Str := ss.filter fun s => !decide (s ∈ [("+" : Str), "-"])
def lsumGo (ns : List Str) : List Str → List Str → Bool
  | [], _ => true
  | p :: r, seen => if p ∈ ns ∧ p ∉ seen then lsumGo ns r (seen ++ [p]) else if numL p < 0 then false else lsumGo ns r seen
def lens4 : List Nat := [1, 3, 5, 7]
def sumL (kd : Str) (ws : List Str) : Bool := if ws.length ∈ lens4 ∧ signB (pickS (stepIx 1 ws.length) ws) = [] then lsumGo (namesL kd) (pickS (stepIx 0 ws.length) ws) [] else false
def spLSum (K : PySem.W.Frag) : Sp := fun vs H Q _ => ∃ (a : Addr) (kd : Str) (ws : List Str), vs = [.str kd, .ref a] ∧ kd ∈ kindsL ∧ SqL K H a (ws.map V.str) ∧ (∀ w ∈ ws, LOk w) ∧ ws.length ≤ 100 ∧ ∀ H', Same H H' → Q (.bl (sumL kd ws)) H'
theorem pick_mem {ix : List Nat} {ws : List Str} {w : Str} (h : w ∈ pickS ix ws) : w ∈ ws := by
  unfold pickS at h
  obtain ⟨i, _, e⟩ := List.mem_filterMap.mp h
  exact List.mem_of_getElem? e
theorem none_at {H G : Hp} {a : Addr} (s : Same H G) (h : G a = none) : H a = none := by
  cases e : H a with
  | none => rfl
  | some o => exact absurd (s _ _ e) (by rw [h]; intro z; cases z)
theorem inV4 (n : Nat) : inV (.int (n : Int)) [.int 1, .int 3, .int 5, .int 7] = decide (n ∈ lens4) := by
  by_cases h1 : n = 1
  · subst h1; decide
  by_cases h3 : n = 3
  · subst h3; decide
  by_cases h5 : n = 5
  · subst h5; decide
  by_cases h7 : n = 7
  · subst h7; decide
  have a1 : ¬ (n : Int) = 1 := by omega
  have a3 : ¬ (n : Int) = 3 := by omega
  have a5 : ¬ (n : Int) = 5 := by omega
  have a7 : ¬ (n : Int) = 7 := by omega
  have e1 : decide (n ∈ lens4) = false := decide_eq_false fun z => by
    unfold lens4 at z
    simp [h1, h3, h5, h7] at z
  rw [e1]
  unfold inV
  simp [eqV]
  exact ⟨fun z => a1 z.symm, fun z => a3 z.symm, fun z => a5 z.symm, fun z => a7 z.symm⟩
theorem lens_ix : ∀ n ∈ lens4, (stepIx 1 n).length ≤ 10 ∧ (stepIx 0 n).length ≤ 10 := by decide
theorem sign_more {l : List Str} {i : Nat} {x : Str} (h : l[i]? = some x) : signB (l.take (i + 1)) = if x ∈ [("+" : Str), "-"] then signB (l.take i) else signB (l.take i) ++ [x] := by
  unfold signB
  rw [take_more h, List.filter_append, List.filter_cons]
  by_cases e : x ∈ [("+" : Str), "-"]
  · rw [if_pos e, decide_eq_true e]
    simp
  · rw [if_neg e, decide_eq_false e]
    rfl
section
variable {P : Program} {w : World} {K : PySem.W.Frag} {mg : Str → Option Value} {base : Heap}
abbrev nmLSum : List Str := ["_law_kind", "_law_words", "_law_names_here", "_law_seen", "_law_piece", "_law_sign"]
theorem scLSum : FnScope nmLSum ["_law_kind", "_law_words"] (defScope sLSum) := ⟨rfl, rfl, rfl, by decide +kernel, rfl, by decide +kernel, by decide +kernel⟩
theorem ok_lsum {f fN fM : Addr} {fd fdN fdM : FuncData} (F : Fun K "_law_is_sum" "_law_is_sum" sLSum f fd) (T : TxtB mg)
    (GN : FnOk P w K mg base CX0 2 fN fdN ["_law_kind"] spLNames) (kN : PySem.W.keepIn K (.ref fN) = true) (bN : Binds K fdN ["_law_kind"] []) (gN : mg "_law_names" = some (.ref fN))
    (GM : FnOk P w K mg base CX0 1 fM fdM ["_law_piece"] spLNum) (kM : PySem.W.keepIn K (.ref fM) = true) (bM : Binds K fdM ["_law_piece"] []) (gM : mg "_law_number" = some (.ref fM)) :
    FnOk P w K mg base CX0 3 f fd ["_law_kind", "_law_words"] (spLSum K) := by
  refine F.ok scLSum (fun vs H Q E h => ?_) (fun cdv A outer s H vs Q E hr h => ?_)
  · obtain ⟨a, kd, ws, rfl, _⟩ := h
    rfl
  · obtain ⟨a, kd, ws, rfl, hk, ha, hok, hl, k⟩ := h
    have hr1 : Room 1 _ := hr.mono (by decide)
    have hr2 : Room 2 _ := hr.mono (by decide)
    refine ⟨_, pss_cons (ps_par (i := 2) (j := 3) rfl scLSum.nd rfl rfl (by decide) rfl rfl (pa_cons (pe_call GN hr2 rfl gN kN bN .nil pass0 (pa_cons (pv 0) pa_nil)) (pa_cons (pe_lst pa_nil) pa_nil)) (by rfl))
      (pss_cons (ps_if (PW.pt (pw_or (pt_cmpR op_notIn_seq (pe_callB call_len_seq (by rfl) T.len PySem.boot_len (pa_cons (pv 1) pa_nil)) (pe_lst (pa_cons pe_int (pa_cons pe_int (pa_cons pe_int (pa_cons pe_int pa_nil))))) (by rfl))
          (pw_or1 (pt_cmpR (op_neD hr.units) (pe_lc (own := [("_law_sign", 5)]) (g := gName 5) rfl scLSum.nd (by exact pi_list (pe_step2 (pv 1))) (blkOk_by (own := [("_law_sign", 5)]) (N := nmLSum) (sc := defScope sLSum) (by decide +kernel)) (fun _ _ _ _ _ => pg_name (i := 5) scLSum.nd rfl (Or.inl rfl)) (tt := tTest (tOp (rIn K true) (tVar 5) (tLst (tCons (tC (.str "+")) (tCons (tC (.str "-")) tNil))))) (fun _ _ _ _ _ => pts_one (by exact (pt_cmpR op_notIn_seq (pv 5) (pe_lst (pa_cons pe_str (pa_cons pe_str pa_nil))) (by rfl)))) (fun _ _ _ _ _ => pv 5)) (pe_lst pa_nil) (nomark _))))) (pss_one (ps_ret pe_bl)) pss_nil)
      (pss_cons (ps_for PassesOwn.never rfl (pi_list (pe_step2 (pv 1))) (pg_name (i := 4) scLSum.nd rfl (Or.inl rfl))
        (pss_one (ps_if (PW.pt (pw_and (pt_cmpR op_in_seq (pv 4) (pv 2) (by rfl)) (pw_and1 (pt_cmpR op_notIn_seq (pv 4) (pv 3) (by rfl))))) (pss_one (ps_expr (pe_bm PySem.F.plainAttrs_list PySem.F.slot_list_append PySem.F.type_list_append mt_append (pv 3) (pa_cons (pv 4) pa_nil))))
          (pss_one (ps_if (pt_cmpR op_lt (pe_call GM hr1 rfl gM kM bM .nil pass0 (pa_cons (pv 4) pa_nil)) pe_int (nomark _)) (pss_one (ps_ret pe_bl)) pss_nil)))))
      (pss_one (ps_ret pe_bl)))), ?_⟩
    refine ⟨_, rfl, kd, rfl, hk, fun N0 H1 s1 gN0 => ?_⟩
    refine ⟨(by show 0 ≤ sizeLine; decide), fun S0 nS => ⟨_, _, rfl, ?_⟩⟩
    have s2 := s1.trans (Same.new (o := .lst []) nS)
    have a2 := s2.seq ha
    have lenS : ∀ ix, (pickS ix ws).length ≤ ix.length := fun ix => List.length_filterMap_le _ _
    refine ⟨_, rfl, a, _, rfl, .inl a2, (by show 4 ≤ sizeLine; decide), fun l1 n1 => ?_⟩
    have s3 := s2.trans (Same.new (o := .lst [.int 1, .int 3, .int 5, .int 7]) n1)
    refine ⟨l1, _, rfl, .inl (SqL.of upd_same), rfl, rfl, _, rfl, ?_⟩
    rw [List.length_map]
    have out : ∀ G, Same H G → sumL kd ws = false → Q (.bl false) G := fun G sG e => by
      have := k G sG
      rw [e] at this
      exact this
    by_cases h4 : ws.length ∈ lens4
    case neg =>
      refine iteT' (by rw [inV4, decide_eq_false h4]; rfl) ?_
      refine iteT ?_
      refine out _ s3 ?_
      unfold sumL
      rw [if_neg fun z => h4 z.1]
    refine iteF' (by rw [inV4, decide_eq_true h4]; rfl) ?_
    refine ⟨_, rfl, a, _, rfl, s3.seq ha, fun b0 nb0 => ?_⟩
    rw [List.length_map, pick_map]
    have s4 := s3.trans (Same.new (o := .lst ((pickS (stepIx 1 ws.length) ws).map V.str)) nb0)
    refine ⟨b0, rfl, ⟨_, SqL.of upd_same⟩, fun D nD => ?_⟩
    refine lc_list (K := K) (a := b0) (xs := (pickS (stepIx 1 ws.length) ws).map V.str) (fun i G => Same (upd (upd (upd H1 S0 (.lst [])) l1 (.lst [.int 1, .int 3, .int 5, .int 7])) b0 (.lst ((pickS (stepIx 1 ws.length) ws).map V.str))) G ∧ G D = some (.lst ((signB ((pickS (stepIx 1 ws.length) ws).take i)).map V.str))) ⟨Same.new nD, upd_same⟩ (fun i G _ ⟨e, _⟩ => SqL.of (e _ _ upd_same)) ?_ ?_
    · rintro i y G hi ⟨sG, gD⟩
      obtain ⟨x, hx, rfl⟩ : ∃ x, (pickS (stepIx 1 ws.length) ws)[i]? = some x ∧ y = V.str x := by
        rw [List.getElem?_map] at hi
        cases e : (pickS (stepIx 1 ws.length) ws)[i]? with
        | none => rw [e] at hi; cases hi
        | some q => rw [e] at hi; exact ⟨q, rfl, (Option.some.inj hi).symm⟩
      have more := sign_more hx
      have hlen : (signB ((pickS (stepIx 1 ws.length) ws).take i)).length ≤ 10 := by
        unfold signB
        refine Nat.le_trans (List.length_filter_le _ _) ?_
        rw [List.length_take]
        have := lenS (stepIx 1 ws.length)
        have := (lens_ix _ h4).1
        omega
      refine ⟨rfl, ?_⟩
      refine ⟨_, rfl, (by show 2 ≤ sizeLine; decide), fun q nq => ?_⟩
      have sq := Same.new (o := .lst [.str "+", .str "-"]) nq
      refine ⟨q, [("+" : Str), "-"].map V.str, rfl, .inl (SqL.of upd_same), rfl, rfl, _, rfl, ?_⟩
      have gD2 := sq _ _ gD
      by_cases e : x ∈ [("+" : Str), "-"]
      · rw [if_pos e] at more
        refine iteF' (by rw [inV_str, decide_eq_true e]; rfl) ?_
        rw [more]
        exact ⟨sG.trans sq, gD2⟩
      · rw [if_neg e] at more
        refine iteT' (by rw [inV_str, decide_eq_false e]; rfl) ?_
        refine ⟨_, rfl, _, gD2, small1000 (by rw [List.length_map]; omega), Same.write (sG.trans sq) nD, ?_⟩
        rw [more, List.map_append]
        exact upd_same
    · rintro G ⟨sG, gD⟩
      rw [List.length_map, List.take_length] at gD
      refine ⟨(by show 0 ≤ sizeLine; decide), fun D2 nD2 => ?_⟩
      have s5 := Same.new (o := .lst []) nD2
      have okS : WsOk (signB (pickS (stepIx 1 ws.length) ws)) := fun x hx => by
        unfold signB at hx
        exact (hok x (pick_mem (List.mem_filter.mp hx).1)).ok
      refine ⟨.list ((signB (pickS (stepIx 1 ws.length) ws)).map PyData.str), .list (([] : List Str).map PyData.str), .lst (SqL.of (s5 _ _ gD)) (dpWs _), .lst (SqL.of (xs := ([] : List Str).map V.str) upd_same) (dpWs _), shapedWs okS, by decide +kernel, ?_⟩
      rw [eqvL]
      refine ⟨_, rfl, ?_⟩
      have s6 := s4.trans (sG.trans s5)
      by_cases hs : signB (pickS (stepIx 1 ws.length) ws) = []
      case neg =>
        refine iteT' (by rw [decide_eq_false hs]; rfl) ?_
        refine out _ s6 ?_
        unfold sumL
        rw [if_neg fun z => hs z.2]
      refine iteF' (by rw [decide_eq_true hs]; rfl) ?_
      have hS0 : H S0 = none := none_at s1 nS
      have res : sumL kd ws = lsumGo (namesL kd) (pickS (stepIx 0 ws.length) ws) [] := by
        unfold sumL
        rw [if_pos ⟨h4, hs⟩]
      have fin : ∀ G2, Same H G2 → Q (.bl (lsumGo (namesL kd) (pickS (stepIx 0 ws.length) ws) [])) G2 := fun G2 s => by
        rw [← res]
        exact k G2 s
      refine ⟨_, rfl, a, _, rfl, s6.seq ha, fun c0 nc0 => ?_⟩
      rw [List.length_map, pick_map]
      obtain ⟨ps, hps⟩ : ∃ ps, ps = pickS (stepIx 0 ws.length) ws := ⟨_, rfl⟩
      rw [← hps] at fin ⊢
      have hpl : ps.length ≤ 10 := by
        rw [hps]
        have := lenS (stepIx 0 ws.length)
        have := (lens_ix _ h4).2
        omega
      have s7 := s6.trans (Same.new (o := .lst (ps.map V.str)) nc0)
      have upS : ∀ (G2 G3 : Hp), Same G2 G3 → ∀ o, G2 S0 = some o → G3 S0 = some o := fun G2 G3 s o e => s _ _ e
      have gS0 : (upd (upd G D2 (.lst [])) c0 (.lst (ps.map V.str))) S0 = some (.lst []) := Same.new nc0 _ _ (s5 _ _ (sG _ _ (Same.new nb0 _ _ (Same.new n1 _ _ upd_same))))
      have gN0' : (upd (upd G D2 (.lst [])) c0 (.lst (ps.map V.str))) N0 = some (.lst ((namesL kd).map V.str)) := Same.new nc0 _ _ (s5 _ _ (sG _ _ (Same.new nb0 _ _ (Same.new n1 _ _ (Same.new nS _ _ gN0)))))
      have SN : S0 ≠ N0 := (ne_of_none gN0 nS).symm
      have Sc : S0 ≠ c0 := ne_of_none (s5 _ _ (sG _ _ (Same.new nb0 _ _ (Same.new n1 _ _ upd_same)))) nc0
      refine ⟨c0, rfl, ⟨_, SqL.of upd_same⟩, for_list (K := K) (a := c0) (xs := ps.map V.str) (fun i σ G2 => ∃ (seen : List Str) (v4 : Option V), σ = [some (.str kd), some (.ref a), some (.ref N0), some (.ref S0), v4, none] ∧ Same H G2 ∧ G2 c0 = some (.lst (ps.map V.str)) ∧ G2 N0 = some (.lst ((namesL kd).map V.str)) ∧ G2 S0 = some (.lst (seen.map V.str)) ∧ seen.length ≤ i ∧ lsumGo (namesL kd) (ps.drop i) seen = lsumGo (namesL kd) ps [])
        ⟨[], none, rfl, s7, upd_same, gN0', gS0, Nat.le_refl _, rfl⟩ (fun i σ G2 _ ⟨_, _, _, _, e, _⟩ => SqL.of e) ?_ ?_⟩
      · rintro i y σ G2 hi ⟨seen, v4, rfl, t1, t2, t3, t4, t5, t6⟩
        obtain ⟨x, hx, rfl⟩ : ∃ x, ps[i]? = some x ∧ y = V.str x := by
          rw [List.getElem?_map] at hi
          cases e : ps[i]? with
          | none => rw [e] at hi; cases hi
          | some q => rw [e] at hi; exact ⟨q, rfl, (Option.some.inj hi).symm⟩
        rw [drop_cons hx] at t6
        have t6' : (if x ∈ namesL kd ∧ x ∉ seen then lsumGo (namesL kd) (ps.drop (i + 1)) (seen ++ [x]) else if numL x < 0 then false else lsumGo (namesL kd) (ps.drop (i + 1)) seen) = lsumGo (namesL kd) ps [] := t6
        have hil := (List.getElem?_eq_some_iff.mp hx).1
        have hxo : LOk x := hok x (pick_mem (by rw [← hps]; exact List.mem_of_getElem? hx))
        refine ⟨_, rfl, _, rfl, N0, _, rfl, .inl (SqL.of t3), rfl, flat_str _, _, rfl, ?_⟩
        have two : ¬ (x ∈ namesL kd ∧ x ∉ seen) → ∀ D : Ends, D.rt = Q → (∀ G3, Same G2 G3 → lsumGo (namesL kd) (ps.drop (i + 1)) seen = lsumGo (namesL kd) ps [] → D.nx [some (.str kd), some (.ref a), some (.ref N0), some (.ref S0), some (.str x), none] G3) →
            (tIfS (tTest (tOp (rI0 fun i j => V.bl (decide (i < j))) (tCall spLNum [] E0 (tCons (tVar 4) tNil)) (tC (V.int 0)))) (tRet (tC (V.bl false))) tNext) D [some (.str kd), some (.ref a), some (.ref N0), some (.ref S0), some (.str x), none] G2 := fun hn D hD hnx => by
          rw [if_neg hn] at t6'
          refine ⟨_, rfl, x, rfl, hxo, fun G3 s8 => ?_⟩
          refine ⟨_, _, rfl, rfl, _, rfl, ?_⟩
          by_cases hneg : numL x < 0
          · rw [if_pos hneg] at t6'
            refine iteT' (decide_eq_true hneg) ?_
            have := fin G3 (t1.trans s8)
            rw [← t6', ← hD] at this
            exact this
          · rw [if_neg hneg] at t6'
            refine iteF' (decide_eq_false hneg) ?_
            exact hnx G3 s8 t6'
        have go : ∀ G3, Same G2 G3 → lsumGo (namesL kd) (ps.drop (i + 1)) seen = lsumGo (namesL kd) ps [] → ∃ (seen' : List Str) (v4 : Option V), ([some (.str kd), some (.ref a), some (.ref N0), some (.ref S0), some (.str x), none] : L2.St) = [some (.str kd), some (.ref a), some (.ref N0), some (.ref S0), v4, none] ∧ Same H G3 ∧ G3 c0 = some (.lst (ps.map V.str)) ∧ G3 N0 = some (.lst ((namesL kd).map V.str)) ∧ G3 S0 = some (.lst (seen'.map V.str)) ∧ seen'.length ≤ i + 1 ∧ lsumGo (namesL kd) (ps.drop (i + 1)) seen' = lsumGo (namesL kd) ps [] := fun G3 s8 e => ⟨seen, _, rfl, t1.trans s8, s8 _ _ t2, s8 _ _ t3, s8 _ _ t4, by omega, e⟩
        by_cases hx1 : x ∈ namesL kd
        · refine iteT' (by show inV _ _ = true; rw [inV_str, decide_eq_true hx1]) ?_
          refine ⟨_, rfl, _, rfl, S0, _, rfl, .inl (SqL.of t4), rfl, flat_str _, _, rfl, ?_⟩
          by_cases hx2 : x ∈ seen
          · refine iteF' (by show (!inV _ _) = false; rw [inV_str, decide_eq_true hx2]; rfl) ?_
            exact two (fun z => z.2 hx2) _ rfl go
          · refine iteT' (by show (!inV _ _) = true; rw [inV_str, decide_eq_false hx2]; rfl) ?_
            rw [if_pos ⟨hx1, hx2⟩] at t6'
            refine ⟨_, rfl, .inl ⟨rfl, _, SqL.of t4⟩, _, rfl, S0, _, _, rfl, rfl, t4, small1000 (by rw [List.length_map]; omega), ?_⟩
            refine ⟨seen ++ [x], _, rfl, Same.write t1 hS0, by rw [upd_ne Sc.symm]; exact t2, by rw [upd_ne SN.symm]; exact t3, ?_, by rw [List.length_append]; exact Nat.succ_le_succ t5, t6'⟩
            rw [List.map_append]
            exact upd_same
        · refine iteF' (by show inV _ _ = false; rw [inV_str, decide_eq_false hx1]) ?_
          exact two (fun z => hx1 z.1) _ rfl go
      · rintro σ G2 ⟨seen, v4, rfl, t1, t2, t3, t4, t5, t6⟩
        rw [List.length_map, List.drop_length] at t6
        have t6' : true = lsumGo (namesL kd) ps [] := t6
        have := fin G2 t1
        rw [← t6'] at this
        exact this
end
end K02

set_option Elab.async false
set_option linter.all false
set_option maxRecDepth 100000
set_option maxHeartbeats 8000000
/-! k02, the law: parts of tests -/
namespace K02
open PySem L2
open K02D (TxtB BagAt spBag spDraw)
def cmps3 : List Str := ["<", "<=", "is"]
def badW (kd x : Str) : Bool := !decide (x ∈ namesL kd) && decide (numL x < 0)
def restL (ws : List Str) : List Str := if ws.take 1 = [("not" : Str)] then ws.drop 1 else ws
def partB (kd : Str) : List Str → Bool
  | [x, o, y] => decide (o ∈ cmps3) && !decide (x = y) && !badW kd x && !badW kd y
  | _ => false
def partL (kd : Str) (ws : List Str) : Bool := partB kd (restL ws)
def spLPart (K : PySem.W.Frag) : Sp := fun vs H Q _ => ∃ (a : Addr) (kd : Str) (ws : List Str), vs = [.str kd, .ref a] ∧ kd ∈ kindsL ∧ SqL K H a (ws.map V.str) ∧ (∀ w ∈ ws, LOk w) ∧ ws.length ≤ 100 ∧ ∀ H', Same H H' → Q (.bl (partL kd ws)) H'
theorem part_no {kd : Str} {r : List Str} (h : r.length ≠ 3) : partB kd r = false := by
  match r with
  | [] => rfl
  | [_] => rfl
  | [_, _] => rfl
  | [_, _, _] => exact absurd rfl h
  | _ :: _ :: _ :: _ :: _ => rfl
section
variable {P : Program} {w : World} {K : PySem.W.Frag} {mg : Str → Option Value} {base : Heap}
abbrev nmLPart : List Str := ["_law_kind", "_law_words", "_law_rest", "_law_word"]
theorem scLPart : FnScope nmLPart ["_law_kind", "_law_words"] (defScope sLPart) := ⟨rfl, rfl, rfl, by decide +kernel, rfl, by decide +kernel, by decide +kernel⟩
theorem ok_lpart {f fN fM : Addr} {fd fdN fdM : FuncData} (F : Fun K "_law_is_part" "_law_is_part" sLPart f fd) (T : TxtB mg)
    (GN : FnOk P w K mg base CX0 2 fN fdN ["_law_kind"] spLNames) (kN : PySem.W.keepIn K (.ref fN) = true) (bN : Binds K fdN ["_law_kind"] []) (gN : mg "_law_names" = some (.ref fN))
    (GM : FnOk P w K mg base CX0 1 fM fdM ["_law_piece"] spLNum) (kM : PySem.W.keepIn K (.ref fM) = true) (bM : Binds K fdM ["_law_piece"] []) (gM : mg "_law_number" = some (.ref fM)) :
    FnOk P w K mg base CX0 3 f fd ["_law_kind", "_law_words"] (spLPart K) := by
  refine F.ok scLPart (fun vs H Q E h => ?_) (fun cdv A outer s H vs Q E hr h => ?_)
  · obtain ⟨a, kd, ws, rfl, _⟩ := h
    rfl
  · obtain ⟨a, kd, ws, rfl, hk, ha, hok, hl, k⟩ := h
    have hr1 : Room 1 _ := hr.mono (by decide)
    have hr2 : Room 2 _ := hr.mono (by decide)
    have c1 : cutV (ws.map V.str) none (some 1) = (ws.take 1).map V.str := cut_hi ws 1
    have c2 : cutV (ws.map V.str) (some 1) none = (ws.drop 1).map V.str := cut_lo ws 1
    obtain ⟨tE, pE, rE⟩ : ∃ tE, PSs (cxOf CX0 P w K mg base nmLPart "_law_is_part" (defScope sLPart) f cdv A outer s H E).nox ((defBody sLPart).drop 1) tE ∧
        ∀ (D : Ends) (G : Hp) (q : Addr) (r : List Str), Same H G → SqL K G q (r.map V.str) → r = restL ws → (∀ b H', Same H H' → b = partL kd ws → D.rt (.bl b) H') → tE D [some (.str kd), some (.ref a), some (.ref q), none] G := by
      refine ⟨_, pss_cons (ps_if (PW.pt (pw_or (pt_cmpR op_ne (pe_callB call_len_seq (by rfl) T.len PySem.boot_len (pa_cons (pv 2) pa_nil)) pe_int (nomark _)) (pw_or (pt_cmpR op_notIn_seq (pe_ix ix_list (pv 2) pe_int (fun _ _ => rfl)) (pe_lst (pa_cons pe_str (pa_cons pe_str (pa_cons pe_str pa_nil)))) (by rfl)) (pw_or1 (pt_cmpR op_eq (pe_ix ix_list (pv 2) pe_int (fun _ _ => rfl)) (pe_ix ix_list (pv 2) pe_int (fun _ _ => rfl)) (nomark _)))))) (pss_one (ps_ret pe_bl)) pss_nil)
      (pss_one (ps_ret (pe_cmpR (op_eqD hr.units) (pe_lc (own := [("_law_word", 3)]) (g := gName 3) (tt := tAnd (tTest (tOp (rIn K true) (tVar 3) (tCall spLNames [] E0 (tCons (tVar 0) tNil)))) (tTest (tOp (rI0 fun i j => V.bl (decide (i < j))) (tCall spLNum [] E0 (tCons (tVar 3) tNil)) (tC (.int 0))))) rfl scLPart.nd (by exact pi_list (pe_lst (pa_cons (pe_ix ix_list (pv 2) pe_int (fun _ _ => rfl)) (pa_cons (pe_ix ix_list (pv 2) pe_int (fun _ _ => rfl)) pa_nil)))) (blkOk_by (own := [("_law_word", 3)]) (N := nmLPart) (sc := defScope sLPart) (by decide +kernel)) (fun _ _ _ _ _ => pg_name (i := 3) scLPart.nd rfl (Or.inl rfl)) (fun _ _ _ _ _ => pts_one (by exact (PW.pt (pw_and (pt_cmpR op_notIn_seq (pv 3) (pe_call GN hr2 rfl gN kN bN .nil pass0 (pa_cons (pv 0) pa_nil)) (by rfl)) (pw_and1 (pt_cmpR op_lt (pe_call GM hr1 rfl gM kM bM .nil pass0 (pa_cons (pv 3) pa_nil)) pe_int (nomark _))))))) (fun _ _ _ _ _ => pv 3)) (pe_lst pa_nil) (nomark _)))), ?_⟩
      intro D G q r sG hq hr0 hrt
      have hrw : ∀ x ∈ r, LOk x := fun x hx => by
        rw [hr0] at hx
        unfold restL at hx
        split at hx
        · exact hok x (List.mem_of_mem_drop hx)
        · exact hok x hx
      have hp : partL kd ws = partB kd r := by
        unfold partL
        rw [hr0]
      rw [hp] at hrt
      refine ⟨_, rfl, q, _, rfl, .inl hq, rfl, _, rfl, ?_⟩
      rw [List.length_map]
      by_cases h3 : r.length = 3
      case neg =>
        refine iteT' (by rw [decide_eq_false (fun z => h3 (by have := V.int.inj z; omega))]; rfl) ?_
        refine iteT ?_
        exact hrt _ _ sG (part_no h3).symm
      refine iteF' (by rw [decide_eq_true (show V.int (r.length : Int) = V.int 3 by rw [h3]; rfl)]; rfl) ?_
      match r, h3 with
      | [x, o, y], _ =>
      have e1 : partB kd [x, o, y] = (decide (o ∈ cmps3) && !decide (x = y) && !badW kd x && !badW kd y) := rfl
      refine ⟨_, rfl, q, _, 1, _, rfl, rfl, hq, atI_nat (j := 1) rfl, (by show 3 ≤ sizeLine; decide), fun l nl => ?_⟩
      have sl := Same.new (o := .lst [.str "<", .str "<=", .str "is"]) nl
      have hq1 := sl.seq hq
      refine ⟨l, cmps3.map V.str, rfl, .inl (SqL.of upd_same), rfl, rfl, _, rfl, ?_⟩
      by_cases ho : o ∈ cmps3
      case neg =>
        refine iteT' (by show (!inV _ _) = true; rw [inV_str, decide_eq_false ho]; rfl) ?_
        refine iteT ?_
        exact hrt _ _ (sG.trans sl) (by rw [e1, decide_eq_false ho]; rfl)
      refine iteF' (by show (!inV _ _) = false; rw [inV_str, decide_eq_true ho]; rfl) ?_
      refine ⟨_, rfl, q, _, 0, _, rfl, rfl, hq1, atI_nat (j := 0) rfl, _, rfl, q, _, 2, _, rfl, rfl, hq1, atI_nat (j := 2) rfl, rfl, _, rfl, ?_⟩
      by_cases hxy : x = y
      · refine iteT' (decide_eq_true (congrArg V.str hxy)) ?_
        exact hrt _ _ (sG.trans sl) (by rw [e1, decide_eq_true ho, decide_eq_true hxy]; rfl)
      refine iteF' (decide_eq_false fun z => hxy (V.str.inj z)) ?_
      refine ⟨_, rfl, q, _, 0, _, rfl, rfl, hq1, atI_nat (j := 0) rfl, _, rfl, q, _, 2, _, rfl, rfl, hq1, atI_nat (j := 2) rfl, (by show 2 ≤ sizeLine; decide), fun b0 nb0 => ?_⟩
      have sb := Same.new (o := .lst [.str x, .str y]) nb0
      refine ⟨b0, rfl, ⟨_, SqL.of upd_same⟩, fun D0 nD => ?_⟩
      refine lc_list (K := K) (a := b0) (xs := [x, y].map V.str) (fun i G2 => Same (upd (upd G l (.lst [.str "<", .str "<=", .str "is"])) b0 (.lst [.str x, .str y])) G2 ∧ G2 D0 = some (.lst ((([x, y].take i).filter (badW kd)).map V.str))) ⟨Same.new nD, upd_same⟩ (fun i G2 _ ⟨e, _⟩ => SqL.of (e _ _ upd_same)) ?_ ?_
      · rintro i z G2 hi ⟨t1, t2⟩
        obtain ⟨u, hu, rfl⟩ : ∃ u, [x, y][i]? = some u ∧ z = V.str u := by
          rw [List.getElem?_map] at hi
          cases e : [x, y][i]? with
          | none => rw [e] at hi; cases hi
          | some q => rw [e] at hi; exact ⟨q, rfl, (Option.some.inj hi).symm⟩
        have hum : u ∈ [x, y] := List.mem_of_getElem? hu
        have huo : LOk u := hrw u (by
          rcases List.mem_cons.mp hum with e | e
          · rw [e]; exact List.mem_cons_self ..
          · rw [List.mem_singleton.mp e]; exact List.mem_cons_of_mem _ (List.mem_cons_of_mem _ (List.mem_cons_self ..)))
        have more : ([x, y].take (i + 1)).filter (badW kd) = if badW kd u = true then ([x, y].take i).filter (badW kd) ++ [u] else ([x, y].take i).filter (badW kd) := by
          rw [take_more hu, List.filter_append, List.filter_cons]
          cases badW kd u with
          | true => rfl
          | false =>
            rw [if_neg Bool.false_ne_true, if_neg Bool.false_ne_true]
            simp
        have hfl : (([x, y].take i).filter (badW kd)).length ≤ 2 := by
          refine Nat.le_trans (List.length_filter_le _ _) ?_
          rw [List.length_take]
          show min i 2 ≤ 2
          omega
        refine ⟨rfl, ?_⟩
        refine ⟨_, rfl, _, rfl, kd, rfl, hk, fun n0 G3 s3 gn => ?_⟩
        refine ⟨n0, _, rfl, .inl (SqL.of gn), rfl, flat_str _, _, rfl, ?_⟩
        by_cases hn : u ∈ namesL kd
        · have hb : badW kd u = false := by
            unfold badW
            rw [decide_eq_true hn]
            rfl
          rw [hb, if_neg Bool.false_ne_true] at more
          refine iteF' (by show (!inV _ _) = false; rw [inV_str, decide_eq_true hn]; rfl) ?_
          refine iteF ?_
          rw [more]
          exact ⟨t1.trans s3, s3 _ _ t2⟩
        · refine iteT' (by show (!inV _ _) = true; rw [inV_str, decide_eq_false hn]; rfl) ?_
          refine ⟨_, rfl, u, rfl, huo, fun G4 s4 => ?_⟩
          refine ⟨_, _, rfl, rfl, _, rfl, ?_⟩
          by_cases hneg : numL u < 0
          · have hb : badW kd u = true := by
              unfold badW
              rw [decide_eq_false hn, decide_eq_true hneg]
              rfl
            rw [hb, if_pos rfl] at more
            refine iteT' (decide_eq_true hneg) ?_
            refine ⟨_, rfl, _, s4 _ _ (s3 _ _ t2), small1000 (by rw [List.length_map]; omega), Same.write (t1.trans (s3.trans s4)) nD, ?_⟩
            rw [more, List.map_append]
            exact upd_same
          · have hb : badW kd u = false := by
              unfold badW
              rw [decide_eq_false hneg, Bool.and_false]
            rw [hb, if_neg Bool.false_ne_true] at more
            refine iteF' (decide_eq_false hneg) ?_
            rw [more]
            exact ⟨t1.trans (s3.trans s4), s4 _ _ (s3 _ _ t2)⟩
      · rintro G2 ⟨t1, t2⟩
        refine ⟨(by show 0 ≤ sizeLine; decide), fun D2 nD2 => ?_⟩
        have s5 := Same.new (o := .lst []) nD2
        have t2' : G2 D0 = some (.lst (([x, y].filter (badW kd)).map V.str)) := t2
        have okF : WsOk ([x, y].filter (badW kd)) := fun u hu => by
          have hum := (List.mem_filter.mp hu).1
          refine (hrw u ?_).ok
          rcases List.mem_cons.mp hum with e | e
          · rw [e]; exact List.mem_cons_self ..
          · rw [List.mem_singleton.mp e]; exact List.mem_cons_of_mem _ (List.mem_cons_of_mem _ (List.mem_cons_self ..))
        refine ⟨.list (([x, y].filter (badW kd)).map PyData.str), .list (([] : List Str).map PyData.str), .lst (SqL.of (s5 _ _ t2')) (dpWs _), .lst (SqL.of (xs := ([] : List Str).map V.str) upd_same) (dpWs _), shapedWs okF, by decide +kernel, ?_⟩
        rw [eqvL]
        refine hrt _ _ (((sG.trans sl).trans sb).trans (t1.trans s5)) ?_
        rw [e1, decide_eq_true ho, decide_eq_false hxy]
        cases h1 : badW kd x with
        | true => simp [List.filter_cons, h1]
        | false =>
          cases h2 : badW kd y with
          | true => simp [List.filter_cons, h1, h2]
          | false => simp [List.filter_cons, h1, h2]
    refine ⟨_, pss_cons (ps_set (i := 2) scLPart.nd rfl (.inl rfl) (pe_ifExp (pt_cmpR (op_eqD hr.units) (pe_slice sl_list (pv 1) po_none (po_some pe_int)) (pe_lst (pa_cons pe_str pa_nil)) (nomark _)) (pe_slice sl_list (pv 1) (po_some pe_int) po_none) (pv 1))) pE, ?_⟩
    refine ⟨_, rfl, _, rfl, a, _, rfl, ha, fun c0 nc0 => ⟨(by show 1 ≤ sizeLine; decide), fun d0 nd0 => ?_⟩⟩
    rw [c1] at nd0 ⊢
    have s1 := Same.new (o := .lst ((ws.take 1).map V.str)) nc0
    have sd := Same.new (o := .lst [.str "not"]) nd0
    have s2 := s1.trans sd
    have okT : WsOk (ws.take 1) := fun x hx => (hok x (List.mem_of_mem_take hx)).ok
    refine ⟨.list ((ws.take 1).map PyData.str), .list ([("not" : Str)].map PyData.str), .lst (SqL.of (sd _ _ upd_same)) (dpWs _), .lst (SqL.of (xs := [("not" : Str)].map V.str) upd_same) (dpWs _), shapedWs okT, by decide +kernel, ?_⟩
    rw [eqvL]
    refine ⟨_, rfl, ?_⟩
    by_cases hn : ws.take 1 = [("not" : Str)]
    · refine iteT' (decide_eq_true hn) ?_
      refine ⟨_, rfl, _, rfl, a, _, rfl, s2.seq ha, fun q nq => ?_⟩
      rw [c2] at *
      exact rE _ _ q (ws.drop 1) (s2.trans (Same.new nq)) (SqL.of upd_same) (by unfold restL; rw [if_pos hn]) (fun b H' s e => by rw [e]; exact k H' s)
    · refine iteF' (decide_eq_false hn) ?_
      refine ⟨_, rfl, ?_⟩
      exact rE _ _ a ws s2 (s2.seq ha) (by unfold restL; rw [if_neg hn]) (fun b H' s e => by rw [e]; exact k H' s)
end
end K02

set_option Elab.async false
set_option linter.all false
set_option maxRecDepth 100000
set_option maxHeartbeats 8000000
/-! k02, the law: lines -/
namespace K02
open PySem L2
open K02D (TxtB BagAt spBag spDraw)
def tailP (ws : List Str) : List Str := Txt.split (Txt.join " " (ws.drop 1)) " and "
def badP (kd p : Str) : Bool := !partL kd (Txt.split p " ")
def ifL (kd : Str) (ws : List Str) : Bool := decide ((tailP ws).length ≤ 4) && decide ((tailP ws).filter (badP kd) = [])
def midL (ws : List Str) : List Str := (ws.drop 2).take (ws.length - 4)
def setL (kd : Str) (ws : List Str) : Bool :=
  if ws.length < 3 then false else if ws.getD 1 Str.empty ≠ "=" then false else if ws.getD 0 Str.empty ∉ [("a" : Str), "b", "c", toldM kd] then false
  else if ws.getD (ws.length - 2) Str.empty ∈ shifts then sumL kd (midL ws) && decide (1 ≤ numL (ws.getD (ws.length - 1) Str.empty) ∧ numL (ws.getD (ws.length - 1) Str.empty) ≤ 63)
  else if ws.getD (ws.length - 2) Str.empty ∈ masks then sumL kd (midL ws) && (decide (0 < numL (ws.getD (ws.length - 1) Str.empty)) && runL (numL (ws.getD (ws.length - 1) Str.empty)).toNat)
  else sumL kd (ws.drop 2)
def lineL (kd x : Str) : Bool := if (Txt.split x " ").getD 0 Str.empty = "if" then ifL kd (Txt.split x " ") else if x = "quit" ∨ x = "no" then decide (x = "quit") || decide (kd = "round") else setL kd (Txt.split x " ")
structure PartsOk (ws : List Str) : Prop where
  few : (tailP ws).length ≤ 100
  jl : (Txt.join " " (ws.drop 1)).length ≤ 5000
  js : ((ws.drop 1).map (·.length)).sum + (ws.drop 1).length * (" " : Str).length ≤ 16777216
  pl : ∀ p ∈ tailP ws, p.length ≤ 5000 ∧ PyData.canLay0 (.str p) = true ∧ (Txt.split p " ").length ≤ 100 ∧ ∀ w ∈ Txt.split p " ", LOk w
structure LineP (x : Str) : Prop where
  len : x.length ≤ 5000
  ne : Txt.split x " " ≠ []
  few : (Txt.split x " ").length ≤ 100
  ws : ∀ w ∈ Txt.split x " ", LOk w ∧ numL w < 2 ^ 110
  ps : (Txt.split x " ").getD 0 Str.empty = "if" → PartsOk (Txt.split x " ")
def spLLine : Sp := fun vs H Q _ => ∃ (kd x : Str), vs = [.str kd, .str x] ∧ kd ∈ kindsL ∧ LineP x ∧ ∀ H', Same H H' → Q (.bl (lineL kd x)) H'
theorem layStr : ∀ {l : List Str}, (∀ p ∈ l, PyData.canLay0 (.str p) = true) → PyData.canLayAll0 (l.map PyData.str) = true
  | [], _ => rfl
  | p :: l, h => by
    rw [List.map_cons, PyData.canLayAll0, Bool.and_eq_true]
    exact ⟨h p (List.mem_cons_self ..), layStr fun q hq => h q (List.mem_cons_of_mem _ hq)⟩
theorem shapedStr {l : List Str} (h : ∀ p ∈ l, PyData.canLay0 (.str p) = true) : SeqAt.shaped (.list (l.map PyData.str)) = true := by
  unfold SeqAt.shaped
  have a1 : (PyData.list (l.map PyData.str)).canLay0 = true := by
    rw [PyData.canLay0]
    exact layStr h
  have a2 : (PyData.list (l.map PyData.str)).depth ≤ 64 := by
    simp only [PyData.depth, depAll]
    decide
  rw [a1, decide_eq_true a2]
  rfl
abbrev rSplit : V → List V → Hp → VK → Prop := fun x xs H Q => ∃ a b, x = .str a ∧ xs = [.str b] ∧ (b.length == 0) = false ∧ a.length + 2 ≤ sizeLine ∧ rNewStrs (Txt.split a b) H Q
section
variable {P : Program} {w : World} {K : PySem.W.Frag} {mg : Str → Option Value} {base : Heap}
abbrev nmLLine : List Str := ["_law_kind", "_law_text", "_law_words", "_law_parts", "_law_sign", "_law_number_here", "_law_part"]
theorem scLLine : FnScope nmLLine ["_law_kind", "_law_text"] (defScope sLLine) := ⟨rfl, rfl, rfl, by decide +kernel, rfl, by decide +kernel, by decide +kernel⟩
theorem ok_lline {f fP fM fS fR fG : Addr} {fd fdP fdM fdS fdR fdG : FuncData} (F : Fun K "_law_is_line" "_law_is_line" sLLine f fd) (T : TxtB mg)
    (GP : FnOk P w K mg base CX0 3 fP fdP ["_law_kind", "_law_words"] (spLPart K)) (kP : PySem.W.keepIn K (.ref fP) = true) (bP : Binds K fdP ["_law_kind", "_law_words"] []) (gP : mg "_law_is_part" = some (.ref fP))
    (GS : FnOk P w K mg base CX0 3 fS fdS ["_law_kind", "_law_words"] (spLSum K)) (kS : PySem.W.keepIn K (.ref fS) = true) (bS : Binds K fdS ["_law_kind", "_law_words"] []) (gS : mg "_law_is_sum" = some (.ref fS))
    (GM : FnOk P w K mg base CX0 1 fM fdM ["_law_piece"] spLNum) (kM : PySem.W.keepIn K (.ref fM) = true) (bM : Binds K fdM ["_law_piece"] []) (gM : mg "_law_number" = some (.ref fM))
    (GR : FnOk P w K mg base CX0 1 fR fdR ["_law_number_here"] spLRun) (kR : PySem.W.keepIn K (.ref fR) = true) (bR : Binds K fdR ["_law_number_here"] []) (gR : mg "_law_is_run" = some (.ref fR))
    (GG : FnOk P w K mg base CX0 1 fG fdG ["_law_kind"] spGoal) (kG : PySem.W.keepIn K (.ref fG) = true) (bG : Binds K fdG ["_law_kind"] []) (gG : mg "_law_goal" = some (.ref fG)) :
    FnOk P w K mg base CX0 4 f fd ["_law_kind", "_law_text"] spLLine := by
  refine F.ok scLLine (fun vs H Q E h => ?_) (fun cdv A outer s H vs Q E hr h => ?_)
  · obtain ⟨kd, x, rfl, _⟩ := h
    rfl
  · obtain ⟨kd, x, rfl, hk, hx, k⟩ := h
    have hr1 : Room 1 _ := hr.mono (by decide)
    refine ⟨_, pss_cons (ps_set (i := 2) scLLine.nd rfl (.inl rfl) (pe_split (pv 1) pe_str))
      (pss_cons (ps_if (pt_cmpR op_eq (pe_ix ix_list (pv 2) pe_int (fun _ _ => rfl)) pe_str (nomark _))
        (pss_cons (ps_set (i := 3) scLLine.nd rfl (.inl rfl) (pe_split (pe_join pe_str (pe_slice sl_list (pv 2) (po_some pe_int) po_none)) pe_str))
        (pss_one (ps_ret (pe_and (pe_cmpR op_le (pe_callB call_len_seq (by rfl) T.len PySem.boot_len (pa_cons (pv 3) pa_nil)) pe_int (nomark _)) (pe_one (pe_cmpR (op_eqD hr.units) (pe_lc (own := [("_law_part", 6)]) (g := gName 6) (tt := tNot (tB (tCall (spLPart K) [] E0 (tCons (tVar 0) (tCons (tM1 rSplit (tVar 6) (tC (.str " "))) tNil))))) rfl scLLine.nd (by exact pi_list (pv 3)) (blkOk_by (own := [("_law_part", 6)]) (N := nmLLine) (sc := defScope sLLine) (by decide +kernel)) (fun _ _ _ _ _ => pg_name (i := 6) scLLine.nd rfl (Or.inl rfl)) (fun _ _ _ _ _ => pts_one (by exact (pt_not (pt_val (pe_call GP hr rfl gP kP bP .nil pass0 (pa_cons (pv 0) (pa_cons (pe_split (pv 6) pe_str) pa_nil))))))) (fun _ _ _ _ _ => pv 6)) (pe_lst pa_nil) (nomark _)))))))
        pss_nil)
      (pss_cons (ps_if (PW.pt (pw_or (pt_cmpR op_eq (pv 1) pe_str (nomark _)) (pw_or1 (pt_cmpR op_eq (pv 1) pe_str (nomark _))))) (pss_one (ps_ret (pe_or (pe_cmpR op_eq (pv 1) pe_str (nomark _)) (pe_one (pe_cmpR op_eq (pv 0) pe_str (nomark _)))))) pss_nil)
      (pss_cons (ps_if (PW.pt (pw_or (pt_cmpR op_lt (pe_callB call_len_seq (by rfl) T.len PySem.boot_len (pa_cons (pv 2) pa_nil)) pe_int (nomark _)) (pw_or (pt_cmpR op_ne (pe_ix ix_list (pv 2) pe_int (fun _ _ => rfl)) pe_str (nomark _)) (pw_or1 (pt_cmpR op_notIn_seq (pe_ix ix_list (pv 2) pe_int (fun _ _ => rfl)) (pe_lst (pa_cons pe_str (pa_cons pe_str (pa_cons pe_str (pa_cons (pe_call GG hr1 rfl gG kG bG .nil pass0 (pa_cons (pv 0) pa_nil)) pa_nil))))) (by rfl)))))) (pss_one (ps_ret pe_bl)) pss_nil)
      (pss_cons (ps_par (i := 4) (j := 5) rfl scLLine.nd rfl rfl (by decide) rfl rfl (pa_cons (pe_ix ix_list (pv 2) (pe_un un_neg pe_int) (fun _ _ => rfl)) (pa_cons (pe_call GM hr1 rfl gM kM bM .nil pass0 (pa_cons (pe_ix ix_list (pv 2) (pe_un un_neg pe_int) (fun _ _ => rfl)) pa_nil)) pa_nil)) (by rfl))
      (pss_cons (ps_if (pt_cmpR op_in_seq (pv 4) (pe_lst (pa_cons pe_str (pa_cons pe_str pa_nil))) (by rfl)) (pss_one (ps_ret (pe_and (pe_call GS hr rfl gS kS bS .nil pass0 (pa_cons (pv 0) (pa_cons (pe_slice sl_list (pv 2) (po_some pe_int) (po_some (pe_un un_neg pe_int))) pa_nil))) (pe_one (pe_chain op_le op_le pe_int (pv 5) pe_int))))) pss_nil)
      (pss_cons (ps_if (pt_cmpR op_in_seq (pv 4) (pe_lst (pa_cons pe_str (pa_cons pe_str (pa_cons pe_str (pa_cons pe_str pa_nil))))) (by rfl)) (pss_one (ps_ret (pe_and (pe_call GS hr rfl gS kS bS .nil pass0 (pa_cons (pv 0) (pa_cons (pe_slice sl_list (pv 2) (po_some pe_int) (po_some (pe_un un_neg pe_int))) pa_nil))) (pe_and (pe_cmpR op_gt (pv 5) pe_int (nomark _)) (pe_one (pe_call GR hr1 rfl gR kR bR .nil pass0 (pa_cons (pv 5) pa_nil))))))) pss_nil)
      (pss_one (ps_ret (pe_call GS hr rfl gS kS bS .nil pass0 (pa_cons (pv 0) (pa_cons (pe_slice sl_list (pv 2) (po_some pe_int) po_none) pa_nil))))))))))), ?_⟩
    obtain ⟨ws, hws⟩ : ∃ ws, ws = Txt.split x " " := ⟨_, rfl⟩
    have hz : x.length + 2 ≤ sizeLine := Nat.le_trans (Nat.add_le_add_right hx.len 2) (by decide)
    have hne : ws ≠ [] := by rw [hws]; exact hx.ne
    have hfew : ws.length ≤ 100 := by rw [hws]; exact hx.few
    have hok : ∀ v ∈ ws, LOk v ∧ numL v < 2 ^ 110 := by rw [hws]; exact hx.ws
    have hps : ws.getD 0 Str.empty = "if" → PartsOk ws := by rw [hws]; exact hx.ps
    have hline : lineL kd x = if ws.getD 0 Str.empty = "if" then ifL kd ws else if x = "quit" ∨ x = "no" then decide (x = "quit") || decide (kd = "round") else setL kd ws := by
      unfold lineL
      rw [← hws]
    have hpos : 0 < ws.length := List.length_pos_iff.mpr hne
    refine ⟨_, rfl, ⟨_, rfl⟩, x, " ", rfl, rfl, rfl, hz, fun W0 nW => ?_⟩
    rw [← hws]
    have s1 := Same.new (o := .lst (ws.map V.str)) nW
    obtain ⟨G0, hG0⟩ : ∃ G0, G0 = upd H W0 (.lst (ws.map V.str)) := ⟨_, rfl⟩
    have gW : G0 W0 = some (.lst (ws.map V.str)) := by rw [hG0]; exact upd_same
    rw [← hG0] at s1 ⊢
    have at0 := at_pos (ws := ws) (i := 0) hpos
    refine ⟨_, rfl, W0, _, 0, _, rfl, rfl, SqL.of gW, at0, rfl, _, rfl, ?_⟩
    by_cases h0 : ws.getD 0 Str.empty = "if"
    · have hp := hps h0
      rw [if_pos h0] at hline
      refine iteT' (decide_eq_true (congrArg V.str h0)) ?_
      have c2 : cutV (ws.map V.str) (some 1) none = (ws.drop 1).map V.str := cut_lo ws 1
      refine ⟨⟨_, rfl⟩, _, rfl, _, rfl, W0, _, rfl, SqL.of gW, fun c nc => ?_⟩
      rw [c2]
      have sc := Same.new (o := .lst ((ws.drop 1).map V.str)) nc
      refine ⟨" ", c, ws.drop 1, rfl, rfl, .inl (SqL.of upd_same), hp.js, ⟨_, rfl⟩, _, " and ", rfl, rfl, rfl, Nat.le_trans (Nat.add_le_add_right hp.jl 2) (by decide), fun P0 nP => ?_⟩
      have eP : Txt.split (Txt.join " " (ws.drop 1)) " and " = tailP ws := rfl
      rw [eP]
      have sp := Same.new (o := .lst ((tailP ws).map V.str)) nP
      have s3 := s1.trans (sc.trans sp)
      have hpf := hp.few
      refine ⟨_, rfl, P0, _, rfl, .inl (SqL.of upd_same), _, _, rfl, rfl, _, rfl, ?_⟩
      rw [List.length_map]
      by_cases h4 : (tailP ws).length ≤ 4
      case neg =>
        refine iteF' (decide_eq_false (by omega)) ?_
        have kk := k _ s3
        rw [hline] at kk
        unfold ifL at kk
        rw [decide_eq_false h4, Bool.false_and] at kk
        exact kk
      refine iteT' (decide_eq_true (by omega)) ?_
      refine ⟨_, rfl, P0, rfl, ⟨_, SqL.of upd_same⟩, fun D nD => ?_⟩
      refine lc_list (K := K) (a := P0) (xs := (tailP ws).map V.str) (fun i G => Same (upd (upd G0 c (.lst ((ws.drop 1).map V.str))) P0 (.lst ((tailP ws).map V.str))) G ∧ G D = some (.lst ((((tailP ws).take i).filter (badP kd)).map V.str))) ⟨Same.new nD, upd_same⟩ (fun i G _ ⟨e, _⟩ => SqL.of (e _ _ upd_same)) ?_ ?_
      · rintro i y G hi ⟨t1, t2⟩
        obtain ⟨p, hpi, rfl⟩ : ∃ p, (tailP ws)[i]? = some p ∧ y = V.str p := by
          rw [List.getElem?_map] at hi
          cases e : (tailP ws)[i]? with
          | none => rw [e] at hi; cases hi
          | some q => rw [e] at hi; exact ⟨q, rfl, (Option.some.inj hi).symm⟩
        obtain ⟨p1, p2, p3, p4⟩ := hp.pl p (List.mem_of_getElem? hpi)
        have more : ((tailP ws).take (i + 1)).filter (badP kd) = if badP kd p = true then ((tailP ws).take i).filter (badP kd) ++ [p] else ((tailP ws).take i).filter (badP kd) := by
          rw [take_more hpi, List.filter_append, List.filter_cons]
          cases badP kd p with
          | true => rfl
          | false =>
            rw [if_neg Bool.false_ne_true, if_neg Bool.false_ne_true]
            simp
        have hfl : (((tailP ws).take i).filter (badP kd)).length ≤ 100 := by
          refine Nat.le_trans (List.length_filter_le _ _) ?_
          rw [List.length_take]
          omega
        refine ⟨rfl, ?_⟩
        refine ⟨_, rfl, _, rfl, ⟨_, rfl⟩, p, " ", rfl, rfl, rfl, Nat.le_trans (Nat.add_le_add_right p1 2) (by decide), fun q nq => ?_⟩
        have sq := Same.new (o := .lst ((Txt.split p " ").map V.str)) nq
        refine ⟨q, kd, Txt.split p " ", rfl, hk, SqL.of upd_same, p4, p3, fun G3 t3 => ⟨_, rfl, ?_⟩⟩
        have tt := t1.trans (sq.trans t3)
        have gD3 := t3 _ _ (sq _ _ t2)
        have eb : (!partL kd (Txt.split p " ")) = badP kd p := rfl
        cases hb : badP kd p with
        | true =>
          rw [hb, if_pos rfl] at more
          refine iteT' (eb.trans hb) ?_
          refine ⟨_, rfl, _, gD3, small1000 (by rw [List.length_map]; omega), Same.write tt nD, ?_⟩
          rw [more, List.map_append]
          exact upd_same
        | false =>
          rw [hb, if_neg Bool.false_ne_true] at more
          refine iteF' (eb.trans hb) ?_
          rw [more]
          exact ⟨tt, gD3⟩
      · rintro G ⟨t1, t2⟩
        rw [List.length_map, List.take_length] at t2
        refine ⟨(by show 0 ≤ sizeLine; decide), fun D2 nD2 => ?_⟩
        have s5 := Same.new (o := .lst []) nD2
        have okF : ∀ q ∈ (tailP ws).filter (badP kd), PyData.canLay0 (.str q) = true := fun q hq => (hp.pl q (List.mem_filter.mp hq).1).2.1
        refine ⟨.list (((tailP ws).filter (badP kd)).map PyData.str), .list (([] : List Str).map PyData.str), .lst (SqL.of (s5 _ _ t2)) (dpWs _), .lst (SqL.of (xs := ([] : List Str).map V.str) upd_same) (dpWs _), shapedStr okF, by decide +kernel, ?_⟩
        rw [eqvL]
        have kk := k _ (s3.trans (t1.trans s5))
        rw [hline] at kk
        unfold ifL at kk
        rw [decide_eq_true h4, Bool.true_and] at kk
        exact kk
    rw [if_neg h0] at hline
    refine iteF' (decide_eq_false fun z => h0 (V.str.inj z)) ?_
    have done : ∀ b G, Same G0 G → b = lineL kd x → Q (.bl b) G := fun b G s e => by
      rw [e]
      exact k G (s1.trans s)
    refine ⟨_, rfl, rfl, _, rfl, ?_⟩
    by_cases hq : x = "quit"
    · refine iteT' (decide_eq_true (congrArg V.str hq)) ?_
      refine iteT ?_
      refine ⟨_, rfl, rfl, _, rfl, ?_⟩
      refine iteT' (decide_eq_true (congrArg V.str hq)) ?_
      refine done _ _ (Same.refl _) ?_
      rw [hline, if_pos (.inl hq), decide_eq_true hq]
      rfl
    refine iteF' (decide_eq_false fun z => hq (V.str.inj z)) ?_
    refine ⟨_, rfl, rfl, _, rfl, ?_⟩
    by_cases hno : x = "no"
    · refine iteT' (decide_eq_true (congrArg V.str hno)) ?_
      refine ⟨_, rfl, rfl, _, rfl, ?_⟩
      refine iteF' (decide_eq_false fun z => hq (V.str.inj z)) ?_
      refine ⟨_, rfl, rfl, ?_⟩
      refine done _ _ (Same.refl _) ?_
      rw [hline, if_pos (.inr hno), decide_eq_false hq, Bool.false_or]
      by_cases hr9 : kd = "round"
      · rw [decide_eq_true hr9, decide_eq_true (congrArg V.str hr9)]
      · rw [decide_eq_false hr9, decide_eq_false fun z => hr9 (V.str.inj z)]
    refine iteF' (decide_eq_false fun z => hno (V.str.inj z)) ?_
    rw [if_neg (fun z => z.elim hq hno)] at hline
    refine ⟨_, rfl, W0, _, rfl, .inl (SqL.of gW), _, _, rfl, rfl, _, rfl, ?_⟩
    rw [List.length_map]
    by_cases h3 : ws.length < 3
    · refine iteT' (decide_eq_true (by omega)) ?_
      refine iteT ?_
      refine done _ _ (Same.refl _) ?_
      rw [hline]
      unfold setL
      rw [if_pos h3]
    refine iteF' (decide_eq_false (by omega)) ?_
    have at1 := at_pos (ws := ws) (i := 1) (by omega)
    refine ⟨_, rfl, W0, _, 1, _, rfl, rfl, SqL.of gW, at1, rfl, _, rfl, ?_⟩
    by_cases h1 : ws.getD 1 Str.empty = "="
    case neg =>
      refine iteT' (by rw [decide_eq_false fun z => h1 (V.str.inj z)]; rfl) ?_
      refine iteT ?_
      refine done _ _ (Same.refl _) ?_
      rw [hline]
      unfold setL
      rw [if_neg h3, if_pos h1]
    refine iteF' (by rw [decide_eq_true (congrArg V.str h1)]; rfl) ?_
    refine ⟨_, rfl, W0, _, 0, _, rfl, rfl, SqL.of gW, at0, _, rfl, kd, rfl, hk, fun G2 s2 => ⟨(by show 4 ≤ sizeLine; decide), fun l nl => ⟨l, [("a" : Str), "b", "c", toldM kd].map V.str, rfl, .inl (SqL.of upd_same), rfl, flat_str _, _, rfl, ?_⟩⟩⟩
    have sl := s2.trans (Same.new (o := .lst [.str "a", .str "b", .str "c", .str (toldM kd)]) nl)
    by_cases hm : ws.getD 0 Str.empty ∈ [("a" : Str), "b", "c", toldM kd]
    case neg =>
      refine iteT' (by show (!inV _ _) = true; rw [inV_str, decide_eq_false hm]; rfl) ?_
      refine done _ _ sl ?_
      rw [hline]
      unfold setL
      rw [if_neg h3, if_neg (fun z => z h1), if_pos hm]
    refine iteF' (by show (!inV _ _) = false; rw [inV_str, decide_eq_true hm]; rfl) ?_
    have hset : setL kd ws = if ws.getD (ws.length - 2) Str.empty ∈ shifts then sumL kd (midL ws) && decide (1 ≤ numL (ws.getD (ws.length - 1) Str.empty) ∧ numL (ws.getD (ws.length - 1) Str.empty) ≤ 63)
        else if ws.getD (ws.length - 2) Str.empty ∈ masks then sumL kd (midL ws) && (decide (0 < numL (ws.getD (ws.length - 1) Str.empty)) && runL (numL (ws.getD (ws.length - 1) Str.empty)).toNat)
        else sumL kd (ws.drop 2) := by
      unfold setL
      rw [if_neg h3, if_neg (fun z => z h1), if_neg (fun z => z hm)]
    rw [hset] at hline
    have gW2 := sl _ _ gW
    have m2 := at_neg (ws := ws) (i := 2) (by decide) (by omega)
    have m1 := at_neg (ws := ws) (i := 1) (by decide) (by omega)
    have hlast := hok _ (getD_mem (ws := ws) (i := ws.length - 1) (by omega))
    refine ⟨_, rfl, _, rfl, W0, _, -2, _, rfl, rfl, SqL.of gW2, m2, _, rfl, _, rfl, W0, _, -1, _, rfl, rfl, SqL.of gW2, m1, _, rfl, hlast.1, fun G4 s4 => ⟨_, _, rfl, ?_⟩⟩
    have t4 := sl.trans s4
    have gW4 := s4 _ _ gW2
    have okS : ∀ v ∈ midL ws, LOk v := fun v hv => (hok v (List.mem_of_mem_drop (List.mem_of_mem_take hv))).1
    have lenM : (midL ws).length ≤ 100 := by
      unfold midL
      rw [List.length_take, List.length_drop]
      omega
    have cm := cut_mid ws (by omega)
    refine ⟨_, rfl, (by show 2 ≤ sizeLine; decide), fun l1 nl1 => ⟨l1, shifts.map V.str, rfl, .inl (SqL.of upd_same), rfl, flat_str _, _, rfl, ?_⟩⟩
    have t5 := Same.new (o := .lst (shifts.map V.str)) nl1
    by_cases hsh : ws.getD (ws.length - 2) Str.empty ∈ shifts
    · rw [if_pos hsh] at hline
      refine iteT' (by show inV _ _ = true; rw [inV_str, decide_eq_true hsh]) ?_
      refine ⟨_, rfl, _, rfl, _, rfl, _, rfl, _, rfl, W0, _, rfl, SqL.of (t5 _ _ gW4), fun c nc => ?_⟩
      have cm' : cutV (ws.map V.str) (some 2) (some (-2)) = (midL ws).map V.str := cm
      rw [cm']
      refine ⟨c, kd, midL ws, rfl, hk, SqL.of upd_same, okS, lenM, fun G9 t9 => ?_⟩
      have t10 := t4.trans (t5.trans ((Same.new (o := .lst ((midL ws).map V.str)) nc).trans t9))
      refine ⟨_, rfl, ?_⟩
      cases hs : sumL kd (midL ws) with
      | false =>
        rw [hs, Bool.false_and] at hline
        refine iteF' rfl ?_
        exact done _ _ t10 hline.symm
      | true =>
        rw [hs, Bool.true_and] at hline
        refine iteT' rfl ?_
        refine ⟨_, rfl, _, _, rfl, rfl, _, rfl, ?_⟩
        by_cases b1 : 1 ≤ numL (ws.getD (ws.length - 1) Str.empty)
        · refine iteT' (decide_eq_true b1) ?_
          refine ⟨_, _, rfl, rfl, ?_⟩
          refine done _ _ t10 ?_
          rw [hline]
          by_cases b2 : numL (ws.getD (ws.length - 1) Str.empty) ≤ 63
          · rw [decide_eq_true b2, decide_eq_true ⟨b1, b2⟩]
          · rw [decide_eq_false b2, decide_eq_false fun z => b2 z.2]
        · refine iteF' (decide_eq_false b1) ?_
          refine done _ _ t10 ?_
          rw [hline, decide_eq_false fun z => b1 z.1]
    rw [if_neg hsh] at hline
    refine iteF' (by show inV _ _ = false; rw [inV_str, decide_eq_false hsh]) ?_
    refine ⟨_, rfl, (by show 4 ≤ sizeLine; decide), fun l2 nl2 => ⟨l2, masks.map V.str, rfl, .inl (SqL.of upd_same), rfl, flat_str _, _, rfl, ?_⟩⟩
    have t6 := t5.trans (Same.new (o := .lst (masks.map V.str)) nl2)
    by_cases hma : ws.getD (ws.length - 2) Str.empty ∈ masks
    · rw [if_pos hma] at hline
      refine iteT' (by show inV _ _ = true; rw [inV_str, decide_eq_true hma]) ?_
      refine ⟨_, rfl, _, rfl, _, rfl, _, rfl, _, rfl, W0, _, rfl, SqL.of (t6 _ _ gW4), fun c nc => ?_⟩
      have cm' : cutV (ws.map V.str) (some 2) (some (-2)) = (midL ws).map V.str := cm
      rw [cm']
      refine ⟨c, kd, midL ws, rfl, hk, SqL.of upd_same, okS, lenM, fun G9 t9 => ?_⟩
      have t10 := t4.trans (t6.trans ((Same.new (o := .lst ((midL ws).map V.str)) nc).trans t9))
      refine ⟨_, rfl, ?_⟩
      cases hs : sumL kd (midL ws) with
      | false =>
        rw [hs, Bool.false_and] at hline
        refine iteF' rfl ?_
        exact done _ _ t10 hline.symm
      | true =>
        rw [hs, Bool.true_and] at hline
        refine iteT' rfl ?_
        refine ⟨_, rfl, _, _, rfl, rfl, _, rfl, ?_⟩
        by_cases b1 : 0 < numL (ws.getD (ws.length - 1) Str.empty)
        · refine iteT' (decide_eq_true b1) ?_
          refine ⟨_, rfl, (numL (ws.getD (ws.length - 1) Str.empty)).toNat, ?_, ?_, fun G10 t11 => ?_⟩
          · rw [Int.toNat_of_nonneg (by omega)]
            rfl
          · have := hlast.2
            omega
          · refine done _ _ (t10.trans t11) ?_
            rw [hline, decide_eq_true b1, Bool.true_and]
        · refine iteF' (decide_eq_false b1) ?_
          refine done _ _ t10 ?_
          rw [hline, decide_eq_false b1, Bool.false_and]
    rw [if_neg hma] at hline
    refine iteF' (by show inV _ _ = false; rw [inV_str, decide_eq_false hma]) ?_
    have c2 : cutV (ws.map V.str) (some 2) none = (ws.drop 2).map V.str := cut_lo ws 2
    refine ⟨_, rfl, _, rfl, _, rfl, W0, _, rfl, SqL.of (t6 _ _ gW4), fun c nc => ?_⟩
    rw [c2]
    refine ⟨c, kd, ws.drop 2, rfl, hk, SqL.of upd_same, fun v hv => (hok v (List.mem_of_mem_drop hv)).1, by rw [List.length_drop]; omega, fun G9 t9 => ?_⟩
    exact done _ _ (t4.trans (t6.trans ((Same.new nc).trans t9))) hline.symm
end
end K02

set_option Elab.async false
set_option linter.all false
set_option maxRecDepth 100000
set_option maxHeartbeats 8000000
/-! k02, the law: numbers drawn -/
namespace K02
open PySem L2
open K02D (TxtB BagAt spBag spDraw)
def poolN : List Int := [0, 1, 2, 5, 6, 12, 63, 64, 65, 4088, 18446744073709551608, 18446744073709551615, 18446744073709551616, 9223372036854775808, 100000000000000000000000000000, 1000000000000000000000000000000]
def zeroL : List Str := ["", "0"]
def numsW : List Str := poolN.flatMap fun n => [(0 : Int), 1].flatMap fun d => zeroL.map fun z => z ++ (toString (n + d) : Str)
def spDNum : Sp := fun vs H Q _ => ∃ (b c : Addr) (m : Nat), vs = [.ref b] ∧ BagAt c H b m ∧ m ≤ 50000 ∧ ∀ s ∈ numsW, ∀ H', BagAt c H' b (m + 3) → K02D.But b H H' → Q (.str s) H'
theorem pool_ok : ∀ n ∈ poolN, ∀ d ∈ [(0 : Int), 1], (n + d).natAbs.log2 < 1920 ∧ (Str.ofString (toString (n + d))).length ≤ 100 := by decide +kernel
theorem dBut_same {b : Addr} {H G : Hp} (s : Same H G) : K02D.But b H G := fun x o h _ => s x o h
section
variable {P : Program} {w : World} {K : PySem.W.Frag} {mg : Str → Option Value} {base : Heap}
abbrev nmDNum : List Str := ["_law_bag_here", "_law_far", "_law_pool", "_law_number_here"]
theorem scDNum : FnScope nmDNum ["_law_bag_here"] (defScope sDNum) := ⟨rfl, rfl, rfl, by decide +kernel, rfl, by decide +kernel, by decide +kernel⟩
theorem ok_dnum {f fD : Addr} {fd fdD : FuncData} (F : Fun K "_law_drawn_number" "_law_drawn_number" sDNum f fd) (T : TxtB mg) (hstr : mg "str" = none)
    (GD : FnOk P w K mg base CX0 1 fD fdD ["_law_bag_here", "_law_limit"] spDraw) (kD : PySem.W.keepIn K (.ref fD) = true) (bD : Binds K fdD ["_law_bag_here", "_law_limit"] []) (gD : mg "_law_draw" = some (.ref fD)) :
    FnOk P w K mg base CX0 2 f fd ["_law_bag_here"] spDNum := by
  refine F.ok scDNum (fun vs H Q E h => ?_) (fun cdv A outer s H vs Q E hr h => ?_)
  · obtain ⟨b, c, m, rfl, _⟩ := h
    rfl
  · obtain ⟨b, c, m, rfl, B, hm, k⟩ := h
    have hr1 : Room 1 _ := hr.mono (by decide)
    refine ⟨_, pss_cons (ps_set (i := 1) scDNum.nd rfl (.inl rfl) (pe_op op_mul pe_int pe_int))
      (pss_cons (ps_set (i := 2) scDNum.nd rfl (.inl rfl) (pe_lst (pa_cons pe_int (pa_cons pe_int (pa_cons pe_int (pa_cons pe_int (pa_cons pe_int (pa_cons pe_int (pa_cons pe_int (pa_cons pe_int (pa_cons pe_int (pa_cons pe_int (pa_cons (pe_op op_sub (pv 1) pe_int) (pa_cons (pe_op op_sub (pv 1) pe_int) (pa_cons (pv 1) (pa_cons (pe_op op_fdiv (pv 1) pe_int) (pa_cons (pe_op op_pow pe_int pe_int) (pa_cons (pe_op op_pow pe_int pe_int) pa_nil))))))))))))))))))
      (pss_cons (ps_set (i := 3) scDNum.nd rfl (.inl rfl) (pe_callTy call_str_int (by rfl) hstr (by decide +kernel) (pa_cons (pe_op op_add (pe_ix ix_list (pv 2) (pe_call GD hr1 rfl gD kD bD .nil pass0 (pa_cons (pv 0) (pa_cons pe_int pa_nil))) (fun _ _ => rfl)) (pe_callTy call_int1 (by rfl) T.int (by decide +kernel) (pa_cons (pe_cmpR op_eq (pe_call GD hr1 rfl gD kD bD .nil pass0 (pa_cons (pv 0) (pa_cons pe_int pa_nil))) pe_int (nomark _)) pa_nil))) pa_nil)))
      (pss_one (ps_ret (pe_op op_add_str (pe_ix ix_list (pe_lst (pa_cons pe_str (pa_cons pe_str pa_nil))) (pe_callTy call_int1 (by rfl) T.int (by decide +kernel) (pa_cons (pe_cmpR op_eq (pe_call GD hr1 rfl gD kD bD .nil pass0 (pa_cons (pv 0) (pa_cons pe_int pa_nil))) pe_int (nomark _)) pa_nil)) (fun _ _ => rfl)) (pv 3)))))), ?_⟩
    obtain ⟨kv, eb⟩ : ∃ o, H b = some o := by
      obtain ⟨_, _, _, _, _, BB⟩ := B
      exact ⟨_, BB.at_⟩
    refine ⟨_, _, rfl, rfl, .inl ⟨by decide, by decide⟩, ?_⟩
    refine ⟨_, rfl, _, _, rfl, rfl, _, rfl, _, _, rfl, rfl, _, rfl, _, rfl, _, _, rfl, rfl, ⟨by decide, by decide⟩, _, _, rfl, rfl, ⟨by decide, by decide, by decide⟩, _, _, rfl, rfl, ⟨by decide, by decide, by decide⟩, (by show 16 ≤ sizeLine; decide), fun l nl => ?_⟩
    have s1 := Same.new (o := .lst (poolN.map V.int)) nl
    have lb : l ≠ b := (ne_of_none eb nl).symm
    refine ⟨_, rfl, _, rfl, b, c, 16, m, rfl, B.keep (Same.new nl), by omega, by decide, by decide, fun r1 G1 r10 r11 B1 e1 => ?_⟩
    obtain ⟨n1, rfl⟩ : ∃ n : Nat, r1 = (n : Int) := ⟨r1.toNat, by omega⟩
    obtain ⟨v, hv⟩ : ∃ v, poolN[n1]? = some v := ⟨_, List.getElem?_eq_getElem (show n1 < 16 by omega)⟩
    have gl : G1 l = some (.lst (poolN.map V.int)) := e1 _ _ (by rw [upd_same]; rfl) lb
    refine ⟨l, _, n1, .int v, rfl, rfl, SqL.of gl, atI_nat (by rw [List.getElem?_map, hv]; rfl), ?_⟩
    have hvm := List.mem_of_getElem? hv
    refine ⟨_, rfl, b, c, 9, m + 1, rfl, B1, by omega, by decide, by decide, fun r2 G2 r20 r21 B2 e2 => ?_⟩
    refine ⟨rfl, .inr ⟨_, rfl, _, _, rfl, rfl, ?_⟩⟩
    obtain ⟨d, hd⟩ : ∃ d : Int, d = if decide (V.int r2 = V.int 0) = true then 1 else 0 := ⟨_, rfl⟩
    have hdm : d ∈ [(0 : Int), 1] := by
      rw [hd]
      split
      · exact List.mem_cons_of_mem _ (List.mem_cons_self ..)
      · exact List.mem_cons_self ..
    obtain ⟨p1, p2⟩ := pool_ok v hvm d hdm
    rw [hd] at p1 p2
    refine ⟨_, rfl, p1, ?_⟩
    rw [← hd] at p2 ⊢
    have eb2 : ∃ o, G2 b = some o := by
      obtain ⟨_, _, _, _, _, BB⟩ := B2
      exact ⟨_, BB.at_⟩
    obtain ⟨o2, eb2⟩ := eb2
    refine ⟨(by show 2 ≤ sizeLine; decide), fun l2 nl2 => ?_⟩
    have s2 := Same.new (o := .lst [.str "", .str "0"]) nl2
    have l2b : l2 ≠ b := (ne_of_none eb2 nl2).symm
    refine ⟨_, rfl, b, c, 12, m + 1 + 1, rfl, B2.keep s2, by omega, by decide, by decide, fun r3 G3 r30 r31 B3 e3 => ?_⟩
    have gl2 : G3 l2 = some (.lst (zeroL.map V.str)) := e3 _ _ upd_same l2b
    obtain ⟨z, hz⟩ : ∃ z : Nat, z = if decide (V.int r3 = V.int 0) = true then 1 else 0 := ⟨_, rfl⟩
    have hz2 : z < 2 := by
      rw [hz]
      split <;> decide
    have hzi : (if decide (V.int r3 = V.int 0) = true then (1 : Int) else 0) = (z : Int) := by
      rw [hz]
      split <;> rfl
    obtain ⟨zs, hzs⟩ : ∃ zs, zeroL[z]? = some zs := ⟨_, List.getElem?_eq_getElem (show z < 2 from hz2)⟩
    refine ⟨rfl, .inr ⟨_, rfl, ?_⟩⟩
    rw [hzi]
    refine ⟨l2, _, z, .str zs, rfl, rfl, SqL.of gl2, atI_nat (by rw [List.getElem?_map, hzs]; rfl), ?_⟩
    have hzm := List.mem_of_getElem? hzs
    have hzl : zs.length ≤ 1 := by
      have q : ∀ y ∈ zeroL, y.length ≤ 1 := by decide +kernel
      exact q zs hzm
    refine ⟨_, rfl, _, _, rfl, rfl, Nat.le_trans (Nat.add_le_add hzl p2) (by decide), ?_⟩
    refine k _ ?_ G3 B3 (((dBut_same (Same.new nl)).trans e1).trans (e2.trans ((dBut_same s2).trans e3)))
    exact List.mem_flatMap.mpr ⟨v, hvm, List.mem_flatMap.mpr ⟨d, hdm, List.mem_map.mpr ⟨zs, hzm, rfl⟩⟩⟩
end
end K02

set_option Elab.async false
set_option linter.all false
set_option maxRecDepth 100000
set_option maxHeartbeats 8000000
/-! k02: texts of words -/
namespace K02
open PySem L2
def keysW : List Str := ["size", "used", "ahead", "word", "n", "a", "b", "c", "=", "+", "-", "<<", ">>", "&", "&~", "|", "^", "<", "<=", "is", "if", "not", "and", "quit", "no", "", "0", "1", "2", "3", "6", "7"]
def allW : List Str := keysW ++ numsW
def wl (ws : List Str) : List Nat := TL.joinL [32] (ws.map TL.tl)
/-- a text of at most n words -/
def Wd (t : Str) (n : Nat) : Prop := ∃ ws : List Str, TL.tl t = wl ws ∧ ws ≠ [] ∧ (∀ w ∈ ws, w ∈ allW) ∧ ws.length ≤ n
theorem joinL_app (S : List Nat) : ∀ {x y : List (List Nat)}, x ≠ [] → y ≠ [] → TL.joinL S (x ++ y) = TL.joinL S x ++ (S ++ TL.joinL S y)
  | [], _, h, _ => absurd rfl h
  | [p], [], _, h => absurd rfl h
  | [p], q :: r, _, _ => rfl
  | p :: q :: r, y, _, hy => by
    have ih := joinL_app S (x := q :: r) (y := y) (by simp) hy
    show p ++ (S ++ TL.joinL S ((q :: r) ++ y)) = (p ++ (S ++ TL.joinL S (q :: r))) ++ (S ++ TL.joinL S y)
    rw [ih]
    simp [List.append_assoc]
theorem wl_app {x y : List Str} (hx : x ≠ []) (hy : y ≠ []) : wl (x ++ y) = wl x ++ (32 :: wl y) := by
  unfold wl
  rw [List.map_append, joinL_app _ (by simpa using hx) (by simpa using hy)]
  rfl
theorem Wd.one {w : Str} (h : w ∈ allW) : Wd w 1 := ⟨[w], rfl, by simp, fun x hx => by rw [List.mem_singleton.mp hx]; exact h, Nat.le_refl _⟩
theorem Wd.mono {t : Str} {n m : Nat} (h : Wd t n) (k : n ≤ m) : Wd t m := by
  obtain ⟨ws, a, b, c, d⟩ := h
  exact ⟨ws, a, b, c, Nat.le_trans d k⟩
theorem mem_app {x y : List Str} (hx : ∀ w ∈ x, w ∈ allW) (hy : ∀ w ∈ y, w ∈ allW) : ∀ w ∈ x ++ y, w ∈ allW := fun w h => by
  rcases List.mem_append.mp h with z | z
  · exact hx w z
  · exact hy w z
/-- a s b with s words between blanks -/
theorem Wd.mid {a b s : Str} {n m : Nat} (ks : List Str) (ha : Wd a n) (hb : Wd b m) (hs : TL.tl s = 32 :: (wl ks ++ [32])) (hk : ks ≠ []) (hkw : ∀ w ∈ ks, w ∈ allW) : Wd (a ++ s ++ b) (n + ks.length + m) := by
  obtain ⟨x, a1, a2, a3, a4⟩ := ha
  obtain ⟨y, b1, b2, b3, b4⟩ := hb
  refine ⟨x ++ (ks ++ y), ?_, by simp [a2], mem_app a3 (mem_app hkw b3), by rw [List.length_append, List.length_append]; omega⟩
  rw [TL.tl_append, TL.tl_append, a1, b1, hs, wl_app a2 (by simp [hk]), wl_app hk b2]
  simp [List.append_assoc]
/-- a b with a words and a blank -/
theorem Wd.pre {b s : Str} {m : Nat} (ks : List Str) (hb : Wd b m) (hs : TL.tl s = wl ks ++ [32]) (hk : ks ≠ []) (hkw : ∀ w ∈ ks, w ∈ allW) : Wd (s ++ b) (ks.length + m) := by
  obtain ⟨y, b1, b2, b3, b4⟩ := hb
  refine ⟨ks ++ y, ?_, by simp [hk], mem_app hkw b3, by rw [List.length_append]; omega⟩
  rw [TL.tl_append, b1, hs, wl_app hk b2]
  simp [List.append_assoc]
theorem Wd.suf {a s : Str} {n : Nat} (ks : List Str) (ha : Wd a n) (hs : TL.tl s = 32 :: wl ks) (hk : ks ≠ []) (hkw : ∀ w ∈ ks, w ∈ allW) : Wd (a ++ s) (n + ks.length) := by
  obtain ⟨x, a1, a2, a3, a4⟩ := ha
  refine ⟨x ++ ks, ?_, by simp [a2], mem_app a3 hkw, by rw [List.length_append]; omega⟩
  rw [TL.tl_append, a1, hs, wl_app a2 hk]
theorem Wd.joined {s : Str} {n : Nat} (ks : List Str) (hs : TL.tl s = 32 :: (wl ks ++ [32])) (hk : ks ≠ []) (hkw : ∀ w ∈ ks, w ∈ allW) : ∀ {ps : List Str}, ps ≠ [] → (∀ p ∈ ps, Wd p n) → Wd (Txt.join s ps) (ps.length * (n + ks.length))
  | [], h, _ => absurd rfl h
  | [p], _, h => by
    rw [TL.join_eq]
    have e : Str.join s [p] = p := rfl
    rw [e]
    exact (h p (List.mem_singleton.mpr rfl)).mono (by simp)
  | p :: q :: r, _, h => by
    have ih := Wd.joined ks hs hk hkw (ps := q :: r) (by simp) (fun z hz => h z (List.mem_cons_of_mem _ hz))
    rw [TL.join_eq] at ih ⊢
    have e : Str.join s (p :: q :: r) = p ++ s ++ Str.join s (q :: r) := rfl
    rw [e]
    refine ((h p (List.mem_cons_self ..)).mid ks ih hs hk hkw).mono ?_
    rw [List.length_cons (a := p), Nat.succ_mul]
    omega
/-- all words are without blanks -/
theorem all_free : ∀ w ∈ allW, 32 ∉ TL.tl w ∧ w.length ≤ 40 := by decide +kernel
theorem Wd.split {t : Str} {n : Nat} (h : Wd t n) : Txt.split t " " ≠ [] ∧ (∀ w ∈ Txt.split t " ", w ∈ allW) ∧ (Txt.split t " ").length ≤ n ∧ TL.tl t = wl (Txt.split t " ") := by
  obtain ⟨ws, a1, a2, a3, a4⟩ := h
  have e : t = Txt.join " " ws := by
    refine TL.ext_tl ?_
    rw [TL.join_eq, TL.tl_join, a1]
    rfl
  have e2 : Txt.split t " " = ws := by
    rw [e]
    exact TL.split_join (y := " ") (s := 32) (S := []) rfl (by decide +kernel) a2 fun p hp => (all_free p (a3 p hp)).1
  rw [e2]
  exact ⟨a2, a3, a4, a1⟩
end K02

set_option Elab.async false
set_option linter.all false
set_option maxRecDepth 100000
set_option maxHeartbeats 8000000
/-! k02, the law: lines drawn -/
namespace K02
open PySem L2
open K02D (TxtB BagAt spBag spDraw)
abbrev rAddS : R2 := fun x y H Q => ∃ i j, x = .str i ∧ y = .str j ∧ i.length + j.length ≤ sizeLine ∧ Q (.str (i ++ j)) H
abbrev rStrI : List V → Hp → VK → Prop := fun xs H Q => ∃ i : Int, xs = [.int i] ∧ i.natAbs.log2 < 1920 ∧ Q (.str (toString i)) H
def names8 : List Str := ["size", "used", "ahead", "word", "n", "a", "b", "c"]
def goals8 : List Str := ["a", "b", "word", "size", "used", "ahead", "c", "n"]
def signs6 : List Str := ["<<", ">>", "&", "&~", "|", "^"]
theorem names8_eq : Txt.split "size used ahead word n a b c" " " = names8 := by decide +kernel
theorem names8_in : ∀ s ∈ names8, s ∈ allW := by decide +kernel
theorem goals8_in : ∀ s ∈ goals8, s ∈ allW := by decide +kernel
theorem signs6_in : ∀ s ∈ signs6, s ∈ allW := by decide +kernel
theorem nums_in : ∀ s ∈ numsW, s ∈ allW := fun s h => List.mem_append_right _ h
theorem len_app (a b : Str) : (a ++ b).length = a.length + b.length := by
  have h := congrArg List.length (TL.tl_append a b)
  rw [List.length_append] at h
  exact h
theorem apl {a b : Str} {n m : Nat} (ha : a.length ≤ n) (hb : b.length ≤ m) : (a ++ b).length ≤ n + m := by
  rw [len_app]
  omega
theorem okl {a b : Str} {n m : Nat} (ha : a.length ≤ n) (hb : b.length ≤ m) (h : n + m ≤ 10000) : a.length + b.length ≤ sizeLine :=
  Nat.le_trans (Nat.le_trans (Nat.add_le_add ha hb) h) (by decide)
theorem wl_len : ∀ ws : List Str, (∀ w ∈ ws, w ∈ allW) → (wl ws).length ≤ 41 * ws.length
  | [], _ => Nat.zero_le _
  | [x], h => by
    have := (all_free x (h x (List.mem_singleton.mpr rfl))).2
    have e : (wl [x]).length = x.length := rfl
    rw [e]
    show _ ≤ 41 * 1
    omega
  | x :: y :: r, h => by
    have ih := wl_len (y :: r) fun w hw => h w (List.mem_cons_of_mem _ hw)
    have := (all_free x (h x (List.mem_cons_self ..))).2
    have e : wl (x :: y :: r) = TL.tl x ++ (32 :: wl (y :: r)) := wl_app (x := [x]) (y := y :: r) (by simp) (by simp)
    have e2 : (TL.tl x).length = x.length := rfl
    rw [e, List.length_append, List.length_cons, e2, List.length_cons (a := x)]
    omega
theorem Wd.len {t : Str} {n : Nat} (h : Wd t n) : t.length ≤ 41 * n := by
  obtain ⟨ws, a, b, c, d⟩ := h
  have e : t.length = (TL.tl t).length := rfl
  rw [e, a]
  exact Nat.le_trans (wl_len ws c) (Nat.mul_le_mul_left _ d)
def cmpsW : List Str := [" < ", " <= ", " is "]
theorem cmps_ok : ∀ s ∈ cmpsW, ∃ w : Str, TL.tl s = 32 :: (wl [w] ++ [32]) ∧ w ∈ allW ∧ s.length ≤ 10 := by
  have h : ∀ s ∈ cmpsW, ∃ w ∈ allW, TL.tl s = 32 :: (wl [w] ++ [32]) ∧ s.length ≤ 10 := by decide +kernel
  intro s hs
  obtain ⟨w, a, b, c⟩ := h s hs
  exact ⟨w, b, a, c⟩
theorem Wd.blank {a b : Str} {n m : Nat} (ha : Wd a n) (hb : Wd b m) : Wd (a ++ " " ++ b) (n + m) := by
  obtain ⟨x, a1, a2, a3, a4⟩ := ha
  obtain ⟨y, b1, b2, b3, b4⟩ := hb
  refine ⟨x ++ y, ?_, by simp [a2], mem_app a3 b3, by rw [List.length_append]; omega⟩
  have e : TL.tl " " = [32] := by decide +kernel
  rw [TL.tl_append, TL.tl_append, a1, b1, e, wl_app a2 b2]
  simp [List.append_assoc]
theorem bag_some {c : Addr} {H : Hp} {b : Addr} {m : Nat} (B : BagAt c H b m) : ∃ o, H b = some o := by
  obtain ⟨_, _, _, _, _, BB⟩ := B
  exact ⟨_, BB.at_⟩
theorem pick_at {K : PySem.W.Frag} {b c l : Addr} {m : Nat} {xs : List Str} {H : Hp} {Q : VK} {E : XK} {lim : Int} (B : BagAt c H b m) (hm : m ≤ 50000) (hl : H l = some (.lst (xs.map V.str))) (lb : l ≠ b) (hlim : lim = (xs.length : Int)) (h0 : 0 < xs.length) (hn : xs.length ≤ 1000)
    (k : ∀ s ∈ xs, ∀ G, BagAt c G b (m + 1) → K02D.But b H G → Q (.str s) G) : spDraw [.ref b, .int lim] H (fun y H2 => rIxL K (.ref l) y H2 Q) E := by
  refine ⟨b, c, lim, m, rfl, B, by omega, by omega, by omega, fun r G r0 r1 B1 e1 => ?_⟩
  obtain ⟨n, rfl⟩ : ∃ n : Nat, r = (n : Int) := ⟨r.toNat, by omega⟩
  obtain ⟨s, hs⟩ : ∃ s, xs[n]? = some s := ⟨_, List.getElem?_eq_getElem (by omega)⟩
  exact ⟨l, _, n, .str s, rfl, rfl, SqL.of (e1 _ _ hl lb), atI_nat (by rw [List.getElem?_map, hs]; rfl), k s (List.mem_of_getElem? hs) G B1 e1⟩
theorem pick_new {K : PySem.W.Frag} {b c l : Addr} {m : Nat} {xs : List Str} {H : Hp} {Q : VK} {E : XK} {lim : Int} (B : BagAt c H b m) (hm : m ≤ 50000) (hl : H l = none) (hlim : lim = (xs.length : Int)) (h0 : 0 < xs.length) (hn : xs.length ≤ 1000)
    (k : ∀ s ∈ xs, ∀ G, BagAt c G b (m + 1) → K02D.But b H G → Q (.str s) G) : spDraw [.ref b, .int lim] (upd H l (.lst (xs.map V.str))) (fun y H2 => rIxL K (.ref l) y H2 Q) E := by
  obtain ⟨o, eb⟩ := bag_some B
  exact pick_at (B.keep (Same.new hl)) hm upd_same (ne_of_none eb hl).symm hlim h0 hn fun s hs G B1 e1 => k s hs G B1 ((dBut_same (Same.new hl)).trans e1)
theorem bag_cs {c : Addr} {H : Hp} {b : Addr} {m : Nat} (B : BagAt c H b m) : ∃ o, H c = some o := by
  obtain ⟨_, _, _, _, _, BB⟩ := B
  exact ⟨_, BB.cs⟩
theorem bag_put {c a : Addr} {H : Hp} {b : Addr} {m : Nat} {o : HO} (B : BagAt c H b m) (h1 : a ≠ b) (h2 : a ≠ c) : BagAt c (upd H a o) b m := by
  obtain ⟨ns, p, q, r, z, B⟩ := B
  exact ⟨ns, p, q, r, z, by rw [upd_ne (Ne.symm h1)]; exact B.at_, by rw [upd_ne (Ne.symm h2)]; exact B.cs, B.len, B.p0, B.q0, B.r0, B.rm, B.z0, B.z1⟩
theorem bag_up {c : Addr} {H : Hp} {b : Addr} {m n : Nat} (B : BagAt c H b m) (h : m ≤ n) : BagAt c H b n := by
  obtain ⟨ns, p, q, r, z, B⟩ := B
  have := B.rm
  exact ⟨ns, p, q, r, z, B.at_, B.cs, B.len, B.p0, B.q0, B.r0, by omega, B.z0, B.z1⟩
theorem but_put {a b : Addr} {H F G : Hp} {o : HO} (h : K02D.But b H F) (ha : F a = none) (g : K02D.But b H G) : K02D.But b H (upd G a o) := fun x u hx hb => by
  rw [upd_ne (ne_of_none (h x u hx hb) ha)]
  exact g x u hx hb
def names7 (one : Str) : List Str := ["a", "b", "c", one, "7", "a", "2"]
theorem names7_ok {one : Str} (h : one ∈ names8) : ∀ t ∈ names7 one, Wd t 1 := by
  have k : ∀ one ∈ names8, ∀ t ∈ names7 one, t ∈ allW := by decide +kernel
  exact fun t ht => Wd.one (k one h t ht)
theorem cut7 (one : Str) : ∀ n : Nat, n < 4 → cutV ((names7 one).map V.str) none (some ((2 : Int) + (n : Int))) = ((names7 one).take (2 + n)).map V.str
  | 0, _ => rfl
  | 1, _ => rfl
  | 2, _ => rfl
  | 3, _ => rfl
  | n + 4, h => absurd h (by omega)
theorem sum_le {n : Nat} : ∀ {ys : List Str}, (∀ t ∈ ys, Wd t n) → (ys.map fun x => x.length).sum ≤ ys.length * (41 * n)
  | [], _ => Nat.zero_le _
  | x :: ys, h => by
    have ih := sum_le (ys := ys) fun t ht => h t (List.mem_cons_of_mem _ ht)
    have := (h x (List.mem_cons_self ..)).len
    rw [List.map_cons, List.sum_cons, List.length_cons, Nat.succ_mul]
    omega
theorem sum_ok {s : Str} {ys : List Str} {n : Nat} (h : ∀ t ∈ ys, Wd t n) (hl : ys.length * (41 * n) ≤ 10000) (hs : s.length ≤ 10) : (ys.map fun x => x.length).sum + ys.length * s.length ≤ 16777216 := by
  have a := sum_le h
  have b := Nat.mul_le_mul (Nat.le_refl ys.length) hs
  by_cases e : n = 0
  · subst e
    cases ys with
    | nil => simp
    | cons x ys =>
      obtain ⟨ws, _, w2, _, w4⟩ := h x (List.mem_cons_self ..)
      cases ws with
      | nil => exact absurd rfl w2
      | cons => simp at w4
  · have : ys.length * 41 ≤ ys.length * (41 * n) := Nat.mul_le_mul (Nat.le_refl _) (by omega)
    omega
def kText (j : Nat) : Str := "a < " ++ (toString (j : Int) : Str)
theorem k_tl : ∀ k : Nat, k < 4 → TL.tl (kText k) = wl ["a", "<", (toString (k : Int) : Str)] ∧ (toString (k : Int) : Str) ∈ allW ∧ ((toString (k : Int) : Str)).length ≤ 3 ∧ (k : Int).natAbs.log2 < 1920 := by decide +kernel
theorem k_wd (k : Nat) (h : k < 4) : Wd (kText k) 3 := by
  obtain ⟨a, b, _⟩ := k_tl k h
  refine ⟨_, a, by simp, fun w hw => ?_, by simp⟩
  rcases List.mem_cons.mp hw with e | hw
  · rw [e]; decide +kernel
  rcases List.mem_cons.mp hw with e | hw
  · rw [e]; decide +kernel
  · rw [List.mem_singleton.mp hw]; exact b
def spDLine : Sp := fun vs H Q _ => ∃ (b c : Addr) (m : Nat), vs = [.ref b] ∧ BagAt c H b m ∧ m ≤ 40000 ∧ ∀ t, Wd t 40 → ∀ H', BagAt c H' b (m + 40) → K02D.But b H H' → Q (.str t) H'
section
variable {P : Program} {w : World} {K : PySem.W.Frag} {mg : Str → Option Value} {base : Heap}
abbrev nmDLine : List Str := ["_law_bag_here", "_law_names_here", "_law_one", "_law_two", "_law_told_here", "_law_goal_here", "_law_sign", "_law_part", "_law_pool", "_law_k"]
theorem scDLine : FnScope nmDLine ["_law_bag_here"] (defScope sDLine) := ⟨rfl, rfl, rfl, by decide +kernel, rfl, by decide +kernel, by decide +kernel⟩
theorem ok_dline {f fD fN : Addr} {fd fdD fdN : FuncData} (F : Fun K "_law_drawn_line" "_law_drawn_line" sDLine f fd) (T : TxtB mg) (hstr : mg "str" = none)
    (GD : FnOk P w K mg base CX0 1 fD fdD ["_law_bag_here", "_law_limit"] spDraw) (kD : PySem.W.keepIn K (.ref fD) = true) (bD : Binds K fdD ["_law_bag_here", "_law_limit"] []) (gD : mg "_law_draw" = some (.ref fD))
    (GN : FnOk P w K mg base CX0 2 fN fdN ["_law_bag_here"] spDNum) (kN : PySem.W.keepIn K (.ref fN) = true) (bN : Binds K fdN ["_law_bag_here"] []) (gN : mg "_law_drawn_number" = some (.ref fN)) :
    FnOk P w K mg base CX0 3 f fd ["_law_bag_here"] spDLine := by
  have sc := scDLine
  refine F.ok scDLine (fun vs H Q E h => ?_) (fun cdv A outer s H vs Q E hr h => ?_)
  · obtain ⟨b, c, m, rfl, _⟩ := h
    rfl
  · obtain ⟨b, c, m, rfl, B, hm, k⟩ := h
    have hr1 : Room 1 _ := hr.mono (by decide)
    have hr2 : Room 2 _ := hr.mono (by decide)
    refine ⟨_, pss_cons (ps_set (i := 1) sc.nd rfl (.inl rfl) (pe_split pe_str pe_str))
      (pss_cons (ps_par (i := 2) (j := 3) rfl sc.nd rfl rfl (by decide) rfl rfl (pa_cons (pe_ix ix_list (pv 1) (pe_call GD hr1 rfl gD kD bD .nil pass0 (pa_cons (pv 0) (pa_cons pe_int pa_nil))) (fun _ _ => rfl)) (pa_cons (pe_ix ix_list (pv 1) (pe_call GD hr1 rfl gD kD bD .nil pass0 (pa_cons (pv 0) (pa_cons pe_int pa_nil))) (fun _ _ => rfl)) pa_nil)) (by rfl))
      (pss_cons (ps_set (i := 4) sc.nd rfl (.inl rfl) (pe_ix ix_list (pe_lst (pa_cons (pv 2) (pa_cons (pe_call GN hr2 rfl gN kN bN .nil pass0 (pa_cons (pv 0) pa_nil)) (pa_cons (pe_op op_add_str (pe_op op_add_str (pv 2) pe_str) (pv 3)) (pa_cons (pe_op op_add_str (pe_op op_add_str (pv 2) pe_str) (pv 3)) pa_nil))))) (pe_call GD hr1 rfl gD kD bD .nil pass0 (pa_cons (pv 0) (pa_cons pe_int pa_nil))) (fun _ _ => rfl)))
      (pss_cons (ps_set (i := 5) sc.nd rfl (.inl rfl) (pe_ix ix_list (pe_lst (pa_cons pe_str (pa_cons pe_str (pa_cons pe_str (pa_cons pe_str (pa_cons pe_str (pa_cons pe_str (pa_cons pe_str (pa_cons pe_str pa_nil))))))))) (pe_call GD hr1 rfl gD kD bD .nil pass0 (pa_cons (pv 0) (pa_cons pe_int pa_nil))) (fun _ _ => rfl)))
      (pss_cons (ps_set (i := 6) sc.nd rfl (.inl rfl) (pe_ix ix_list (pe_lst (pa_cons pe_str (pa_cons pe_str (pa_cons pe_str (pa_cons pe_str (pa_cons pe_str (pa_cons pe_str pa_nil))))))) (pe_call GD hr1 rfl gD kD bD .nil pass0 (pa_cons (pv 0) (pa_cons pe_int pa_nil))) (fun _ _ => rfl)))
      (pss_cons (ps_set (i := 7) sc.nd rfl (.inl rfl) (pe_op op_add_str (pe_ix ix_list (pe_lst (pa_cons (pv 2) (pa_cons (pe_call GN hr2 rfl gN kN bN .nil pass0 (pa_cons (pv 0) pa_nil)) pa_nil))) (pe_call GD hr1 rfl gD kD bD .nil pass0 (pa_cons (pv 0) (pa_cons pe_int pa_nil))) (fun _ _ => rfl)) (pe_ix ix_list (pe_lst (pa_cons pe_str (pa_cons pe_str (pa_cons pe_str pa_nil)))) (pe_call GD hr1 rfl gD kD bD .nil pass0 (pa_cons (pv 0) (pa_cons pe_int pa_nil))) (fun _ _ => rfl))))
      (pss_cons (ps_set (i := 7) sc.nd rfl (.inl rfl) (pe_op op_add_str (pv 7) (pe_ix ix_list (pe_lst (pa_cons (pv 3) (pa_cons (pe_call GN hr2 rfl gN kN bN .nil pass0 (pa_cons (pv 0) pa_nil)) pa_nil))) (pe_call GD hr1 rfl gD kD bD .nil pass0 (pa_cons (pv 0) (pa_cons pe_int pa_nil))) (fun _ _ => rfl))))
      (pss_cons (ps_set (i := 8) sc.nd rfl (.inl rfl) (pe_lst (pa_cons (pe_op op_add_str (pe_op op_add_str (pv 5) pe_str) (pv 4)) (pa_cons (pe_op op_add_str (pe_op op_add_str (pe_op op_add_str (pe_op op_add_str (pe_op op_add_str (pe_op op_add_str (pv 5) pe_str) (pv 4)) pe_str) (pv 6)) pe_str) (pe_call GN hr2 rfl gN kN bN .nil pass0 (pa_cons (pv 0) pa_nil))) pa_nil))))
      (pss_cons (ps_set (i := 8) sc.nd rfl (.inl rfl) (pe_op op_cat (pv 8) (pe_lst (pa_cons (pe_op op_add_str (pe_op op_add_str (pe_op op_add_str (pe_op op_add_str (pe_op op_add_str (pv 5) pe_str) (pv 2)) pe_str) (pv 6)) pe_str) (pa_cons (pe_op op_add_str pe_str (pv 7)) (pa_cons (pe_op op_add_str (pe_op op_add_str pe_str (pv 7)) pe_str) (pa_cons pe_str (pa_cons pe_str pa_nil))))))))
      (pss_cons (ps_set (i := 1) sc.nd rfl (.inl rfl) (pe_lst (pa_cons pe_str (pa_cons pe_str (pa_cons pe_str (pa_cons (pv 2) (pa_cons pe_str (pa_cons pe_str (pa_cons pe_str pa_nil)))))))))
      (pss_cons (ps_expr (pe_bm PySem.F.plainAttrs_list PySem.F.slot_list_append PySem.F.type_list_append mt_append (pv 8) (pa_cons (pe_op op_add_str (pe_op op_add_str (pv 5) pe_str) (pe_join pe_str (pe_slice sl_list (pv 1) po_none (po_some (pe_op op_add pe_int (pe_call GD hr1 rfl gD kD bD .nil pass0 (pa_cons (pv 0) (pa_cons pe_int pa_nil)))))))) pa_nil)))
      (pss_cons (ps_expr (pe_bm PySem.F.plainAttrs_list PySem.F.slot_list_append PySem.F.type_list_append mt_append (pv 8) (pa_cons (pe_op op_add_str pe_str (pe_join pe_str (pe_op op_cat (pe_lst (pa_cons (pv 7) pa_nil)) (pe_lc (own := [("_law_k", 9)]) (g := gName 9) (te := tOp rAddS (tC (.str "a < ")) (tCB rStrI (tCons (tVar 9) tNil))) (tt := tYes) rfl sc.nd (by exact pi_range1 (by rfl) T.range (pa_cons (pe_op op_add pe_int (pe_call GD hr1 rfl gD kD bD .nil pass0 (pa_cons (pv 0) (pa_cons pe_int pa_nil)))) pa_nil)) (blkOk_by (own := [("_law_k", 9)]) (N := nmDLine) (sc := defScope sDLine) (by decide +kernel)) (fun _ _ _ _ _ => pg_name (i := 9) sc.nd rfl (Or.inl rfl)) (fun _ _ _ _ _ => pts_nil) (fun _ _ _ _ _ => by exact (pe_op op_add_str pe_str (pe_callTy call_str_int (by rfl) hstr (by decide +kernel) (pa_cons (pv 9) pa_nil)))))))) pa_nil)))
      (pss_one (ps_ret (pe_ix ix_list (pv 8) (pe_call GD hr1 rfl gD kD bD .nil pass0 (pa_cons (pv 0) (pa_cons pe_int pa_nil))) (fun _ _ => rfl))))))))))))))), ?_⟩
    obtain ⟨o0, eb⟩ := bag_some B
    have bl : (1 : Nat) ≤ 3000 := by decide
    refine ⟨⟨_, rfl⟩, "size used ahead word n a b c", " ", rfl, rfl, rfl, by decide, fun N0 nN => ?_⟩
    rw [names8_eq]
    have sN := Same.new (o := .lst (names8.map V.str)) nN
    have Nb : N0 ≠ b := (ne_of_none eb nN).symm
    have n8 : ∀ s ∈ names8, Wd s 1 := fun s hs => Wd.one (names8_in s hs)
    refine ⟨_, rfl, _, rfl, pick_at (E := E0) (B.keep sN) (by omega) upd_same Nb rfl (by decide) (by decide) fun one h1 G1 B1 e1 => ?_⟩
    have gN1 : G1 N0 = some (.lst (names8.map V.str)) := e1 _ _ upd_same Nb
    refine ⟨_, rfl, _, rfl, pick_at (E := E0) B1 (by omega) gN1 Nb rfl (by decide) (by decide) fun two h2 G2 B2 e2 => ⟨_, _, rfl, ?_⟩⟩
    have w1 := n8 one h1
    have w2 := n8 two h2
    have f2 : K02D.But b H G2 := ((dBut_same sN).trans e1).trans e2
    -- told_here
    refine ⟨_, rfl, _, rfl, b, c, m + 1 + 1, rfl, B2, by omega, fun n1 hn1 G3 B3 e3 => ?_⟩
    have wn1 : Wd n1 1 := Wd.one (nums_in n1 hn1)
    have wt1 : Wd (one ++ " + " ++ two) 3 := w1.mid ["+"] w2 (by decide +kernel) (by simp) (by decide +kernel)
    have wt2 : Wd (one ++ " - 3 + " ++ two) 5 := w1.mid ["-", "3", "+"] w2 (by decide +kernel) (by simp) (by decide +kernel)
    refine ⟨_, rfl, _, _, rfl, rfl, okl w1.len (by decide +kernel : (" + " : Str).length ≤ 10) (by decide), _, rfl, _, _, rfl, rfl, okl (apl w1.len (by decide +kernel : (" + " : Str).length ≤ 10)) w2.len (by decide), _, rfl, _, _, rfl, rfl, okl w1.len (by decide +kernel : (" - 3 + " : Str).length ≤ 10) (by decide), _, rfl, _, _, rfl, rfl, okl (apl w1.len (by decide +kernel : (" - 3 + " : Str).length ≤ 10)) w2.len (by decide), (by show 4 ≤ sizeLine; decide), fun l1 nl1 => ?_⟩
    refine ⟨_, rfl, pick_new (E := E0) (xs := [one, n1, one ++ " + " ++ two, one ++ " - 3 + " ++ two]) B3 (by omega) nl1 rfl (by show 0 < 4; decide) (by show 4 ≤ 1000; decide) fun told ht G4 B4 e4 => ?_⟩
    have wt : Wd told 5 := by
      rcases List.mem_cons.mp ht with e | ht
      · rw [e]; exact w1.mono (by decide)
      rcases List.mem_cons.mp ht with e | ht
      · rw [e]; exact wn1.mono (by decide)
      rcases List.mem_cons.mp ht with e | ht
      · rw [e]; exact wt1.mono (by decide)
      · rw [List.mem_singleton.mp ht]; exact wt2
    have f4 := (f2.trans e3).trans e4
    -- goal_here
    refine ⟨(by show 8 ≤ sizeLine; decide), fun l2 nl2 => ⟨_, rfl, pick_new (E := E0) (xs := goals8) B4 (by omega) nl2 rfl (by decide) (by decide) fun goal hg G5 B5 e5 => ?_⟩⟩
    have wg : Wd goal 1 := Wd.one (goals8_in goal hg)
    refine ⟨(by show 6 ≤ sizeLine; decide), fun l3 nl3 => ⟨_, rfl, pick_new (E := E0) (xs := signs6) B5 (by omega) nl3 rfl (by decide) (by decide) fun sign hsg G6 B6 e6 => ?_⟩⟩
    have ws : Wd sign 1 := Wd.one (signs6_in sign hsg)
    have f6 := (f4.trans e5).trans e6
    -- part
    refine ⟨_, rfl, ?_⟩
    refine ⟨_, rfl, b, c, _, rfl, B6, by omega, fun n2 hn2 G7 B7 e7 => ?_⟩
    have wn2 : Wd n2 1 := Wd.one (nums_in n2 hn2)
    refine ⟨(by show 2 ≤ sizeLine; decide), fun l4 nl4 => ⟨_, rfl, pick_new (E := E0) (xs := [one, n2]) B7 (by omega) nl4 rfl (by show 0 < 2; decide) (by show 2 ≤ 1000; decide) fun pa hpa G8 B8 e8 => ?_⟩⟩
    have wpa : Wd pa 1 := by
      rcases List.mem_cons.mp hpa with e | hpa
      · rw [e]; exact w1
      · rw [List.mem_singleton.mp hpa]; exact wn2
    refine ⟨(by show 3 ≤ sizeLine; decide), fun l5 nl5 => ⟨_, rfl, pick_new (E := E0) (xs := cmpsW) B8 (by omega) nl5 rfl (by decide) (by decide) fun cm hcm G9 B9 e9 => ?_⟩⟩
    obtain ⟨cw, cw1, cw2, cw3⟩ := cmps_ok cm hcm
    refine ⟨_, _, rfl, rfl, okl wpa.len cw3 (by decide), ?_⟩
    refine ⟨_, rfl, _, rfl, _, rfl, b, c, _, rfl, B9, by omega, fun n3 hn3 G10 B10 e10 => ?_⟩
    have wn3 : Wd n3 1 := Wd.one (nums_in n3 hn3)
    refine ⟨(by show 2 ≤ sizeLine; decide), fun l6 nl6 => ⟨_, rfl, pick_new (E := E0) (xs := [two, n3]) B10 (by omega) nl6 rfl (by show 0 < 2; decide) (by show 2 ≤ 1000; decide) fun pb hpb G11 B11 e11 => ?_⟩⟩
    have wpb : Wd pb 1 := by
      rcases List.mem_cons.mp hpb with e | hpb
      · rw [e]; exact w2
      · rw [List.mem_singleton.mp hpb]; exact wn3
    refine ⟨_, _, rfl, rfl, okl (apl wpa.len cw3) wpb.len (by decide), ?_⟩
    obtain ⟨part, hpart⟩ : ∃ part, part = pa ++ cm ++ pb := ⟨_, rfl⟩
    have wp : Wd part 3 := by
      rw [hpart]
      exact wpa.mid [cw] wpb cw1 (by simp) (fun x hx => by rw [List.mem_singleton.mp hx]; exact cw2)
    rw [← hpart]
    have f11 := ((((f6.trans e7).trans e8).trans e9).trans e10).trans e11
    have q3 : (" = " : Str).length ≤ 10 := by decide +kernel
    have q1 : (" " : Str).length ≤ 10 := by decide +kernel
    have wgt : Wd (goal ++ " = " ++ told) 7 := (wg.mid ["="] wt (by decide +kernel) (by simp) (by decide +kernel)).mono (by decide)
    have wgts : Wd (goal ++ " = " ++ told ++ " " ++ sign) 8 := wgt.blank ws
    -- pool
    refine ⟨_, rfl, _, _, rfl, rfl, okl wg.len q3 (by decide), _, rfl, _, _, rfl, rfl, okl (apl wg.len q3) wt.len (by decide), ?_⟩
    refine ⟨_, rfl, _, _, rfl, rfl, okl wg.len q3 (by decide), _, rfl, _, _, rfl, rfl, okl (apl wg.len q3) wt.len (by decide), ?_⟩
    refine ⟨_, _, rfl, rfl, okl wgt.len q1 (by decide), _, rfl, _, _, rfl, rfl, okl (apl wgt.len q1) ws.len (by decide), _, _, rfl, rfl, okl wgts.len q1 (by decide), ?_⟩
    refine ⟨_, rfl, b, c, _, rfl, B11, by omega, fun n4 hn4 G12 B12 e12 => ?_⟩
    have wn4 : Wd n4 1 := Wd.one (nums_in n4 hn4)
    refine ⟨_, _, rfl, rfl, okl (apl wgts.len q1) wn4.len (by decide), ?_⟩
    have p1 := wgt
    have p2 : Wd (goal ++ " = " ++ told ++ " " ++ sign ++ " " ++ n4) 9 := wgts.blank wn4
    refine ⟨(by show 2 ≤ sizeLine; decide), fun l7 nl7 => ?_⟩
    -- the second half of the pool
    have q6 : (" 6" : Str).length ≤ 10 := by decide +kernel
    have qi : ("if " : Str).length ≤ 10 := by decide +kernel
    have qn : ("if not " : Str).length ≤ 10 := by decide +kernel
    have qa : (" and a < 3" : Str).length ≤ 10 := by decide +kernel
    have wgo : Wd (goal ++ " = " ++ one) 3 := (wg.mid ["="] w1 (by decide +kernel) (by simp) (by decide +kernel)).mono (by decide)
    have wgos : Wd (goal ++ " = " ++ one ++ " " ++ sign) 4 := wgo.blank ws
    have p3 : Wd (goal ++ " = " ++ one ++ " " ++ sign ++ " 6") 5 := wgos.suf ["6"] (by decide +kernel) (by simp) (by decide +kernel)
    have p4 : Wd ("if " ++ part) 4 := wp.pre ["if"] (by decide +kernel) (by simp) (by decide +kernel)
    have p50 : Wd ("if not " ++ part) 5 := wp.pre ["if", "not"] (by decide +kernel) (by simp) (by decide +kernel)
    have p5 : Wd ("if not " ++ part ++ " and a < 3") 9 := p50.suf ["and", "a", "<", "3"] (by decide +kernel) (by simp) (by decide +kernel)
    have s7 := Same.new (o := .lst [.str (goal ++ " = " ++ told), .str (goal ++ " = " ++ told ++ " " ++ sign ++ " " ++ n4)]) nl7
    have B13 := B12.keep s7
    obtain ⟨o7, eb7⟩ := bag_some B12
    have l7b : l7 ≠ b := (ne_of_none eb7 nl7).symm
    refine ⟨_, rfl, _, rfl, _, _, rfl, rfl, okl wg.len q3 (by decide), _, rfl, _, _, rfl, rfl, okl (apl wg.len q3) w1.len (by decide), ?_⟩
    refine ⟨_, _, rfl, rfl, okl wgo.len q1 (by decide), _, rfl, _, _, rfl, rfl, okl (apl wgo.len q1) ws.len (by decide), _, _, rfl, rfl, okl wgos.len q6 (by decide), ?_⟩
    refine ⟨_, rfl, _, _, rfl, rfl, okl qi wp.len (by decide), ?_⟩
    refine ⟨_, rfl, _, _, rfl, rfl, okl qn wp.len (by decide), _, _, rfl, rfl, okl p50.len qa (by decide), ?_⟩
    refine ⟨(by show 5 ≤ sizeLine; decide), fun l8 nl8 => ?_⟩
    have s8 := Same.new (o := .lst ([goal ++ " = " ++ one ++ " " ++ sign ++ " 6", "if " ++ part, "if not " ++ part ++ " and a < 3", "quit", "no"].map V.str)) nl8
    refine ⟨l7, l8, _, [goal ++ " = " ++ one ++ " " ++ sign ++ " 6", "if " ++ part, "if not " ++ part ++ " and a < 3", "quit", "no"].map V.str, rfl, rfl, s8 _ _ upd_same, upd_same, (by show 7 ≤ sizeLine; decide), fun pl npl => ?_⟩
    obtain ⟨pool, hpool⟩ : ∃ pool : List Str, pool = [goal ++ " = " ++ told, goal ++ " = " ++ told ++ " " ++ sign ++ " " ++ n4, goal ++ " = " ++ one ++ " " ++ sign ++ " 6", "if " ++ part, "if not " ++ part ++ " and a < 3", "quit", "no"] := ⟨_, rfl⟩
    have hpl : pool.length = 7 := by rw [hpool]; rfl
    have wpool : ∀ t ∈ pool, Wd t 9 := by
      rw [hpool]
      intro t ht
      rcases List.mem_cons.mp ht with e | ht
      · rw [e]; exact p1.mono (by decide)
      rcases List.mem_cons.mp ht with e | ht
      · rw [e]; exact p2
      rcases List.mem_cons.mp ht with e | ht
      · rw [e]; exact p3.mono (by decide)
      rcases List.mem_cons.mp ht with e | ht
      · rw [e]; exact p4.mono (by decide)
      rcases List.mem_cons.mp ht with e | ht
      · rw [e]; exact p5
      rcases List.mem_cons.mp ht with e | ht
      · rw [e]; exact (Wd.one (by decide +kernel)).mono (by decide)
      · rw [List.mem_singleton.mp ht]; exact (Wd.one (by decide +kernel)).mono (by decide)
    have ep : ([V.str (goal ++ " = " ++ told), V.str (goal ++ " = " ++ told ++ " " ++ sign ++ " " ++ n4)] ++ List.map V.str [goal ++ " = " ++ one ++ " " ++ sign ++ " 6", "if " ++ part, "if not " ++ part ++ " and a < 3", "quit", "no"] : List V) = pool.map V.str := by
      rw [hpool]
      rfl
    rw [ep]
    have sp := s8.trans (Same.new (o := .lst (pool.map V.str)) npl)
    have Bp := B13.keep sp
    have plb : pl ≠ b := by
      obtain ⟨o9, eb9⟩ := bag_some (B13.keep s8)
      exact (ne_of_none eb9 npl).symm
    have fp := ((f11.trans e12).trans (dBut_same s7)).trans (dBut_same sp)
    refine ⟨_, rfl, (by show 7 ≤ sizeLine; decide), fun nm nnm => ?_⟩
    have n7 : ∀ t ∈ names7 one, Wd t 1 := names7_ok h1
    have snm := Same.new (o := .lst ((names7 one).map V.str)) nnm
    have Bq := Bp.keep snm
    obtain ⟨o12, eb12⟩ := bag_some Bp
    have nmb : nm ≠ b := (ne_of_none eb12 nnm).symm
    have nmpl : nm ≠ pl := (ne_of_none (upd_same) nnm).symm
    have plc : pl ≠ c := by
      obtain ⟨o9, ec9⟩ := bag_cs (B13.keep s8)
      exact (ne_of_none ec9 npl).symm
    have fbase := ((f11.trans e12).trans (dBut_same s7)).trans (dBut_same s8)
    -- the first append
    refine ⟨_, rfl, .inl ⟨rfl, _, SqL.of (snm _ _ upd_same)⟩, _, rfl, _, _, rfl, rfl, okl wg.len q3 (by decide), ⟨_, rfl⟩, _, rfl, _, rfl, b, c, 4, _, rfl, Bq, by omega, by decide, by decide, fun r1 G14 r10 r11 B14 e14 => ?_⟩
    obtain ⟨j1, rfl⟩ : ∃ n : Nat, r1 = (n : Int) := ⟨r1.toNat, by omega⟩
    have hj1 : j1 < 4 := by omega
    have gnm : G14 nm = some (.lst ((names7 one).map V.str)) := e14 _ _ upd_same nmb
    have gpl : G14 pl = some (.lst (pool.map V.str)) := e14 _ _ (snm _ _ upd_same) plb
    refine ⟨_, _, rfl, rfl, _, rfl, nm, _, rfl, SqL.of gnm, fun sl nsl => ?_⟩
    rw [cut7 one j1 hj1]
    obtain ⟨ys, hys⟩ : ∃ ys, ys = (names7 one).take (2 + j1) := ⟨_, rfl⟩
    have ys1 : ∀ t ∈ ys, Wd t 1 := fun t ht => n7 t (List.mem_of_mem_take (hys ▸ ht))
    have ysl : ys.length = 2 + j1 := by rw [hys, List.length_take]; show min (2 + j1) 7 = _; omega
    have ysn : ys ≠ [] := fun z => by rw [z] at ysl; simp at ysl; omega
    rw [← hys]
    have wj : Wd (Txt.join " + " ys) 10 := (Wd.joined (s := " + ") (n := 1) ["+"] (by decide +kernel) (by simp) (by decide +kernel) ysn ys1).mono (by rw [ysl]; show (2 + j1) * 2 ≤ 10; omega)
    refine ⟨_, sl, ys, rfl, rfl, .inl (SqL.of upd_same), sum_ok ys1 (by omega) (by decide +kernel), _, _, rfl, rfl, okl (apl wg.len q3) wj.len (by decide), ?_⟩
    have t8 : Wd (goal ++ " = " ++ Txt.join " + " ys) 12 := wg.mid ["="] wj (by decide +kernel) (by simp) (by decide +kernel)
    have ssl := Same.new (o := .lst (ys.map V.str)) nsl
    have B15 := B14.keep ssl
    have f15 := fp.trans ((dBut_same snm).trans (e14.trans (dBut_same ssl)))
    refine ⟨pl, _, _, rfl, rfl, ssl _ _ gpl, by rw [List.length_map, hpl]; decide, ?_⟩
    have B16 := bag_put (o := .lst (pool.map V.str ++ [V.str (goal ++ " = " ++ Txt.join " + " ys)])) B15 plb plc
    have f16 := but_put (o := .lst (pool.map V.str ++ [V.str (goal ++ " = " ++ Txt.join " + " ys)])) fbase npl f15
    have g16 : upd (upd G14 sl (.lst (ys.map V.str))) pl (.lst (pool.map V.str ++ [V.str (goal ++ " = " ++ Txt.join " + " ys)])) pl = some (.lst ((pool ++ [goal ++ " = " ++ Txt.join " + " ys]).map V.str)) := by
      rw [upd_same, List.map_append]
      rfl
    -- the second append
    refine ⟨_, rfl, .inl ⟨rfl, _, SqL.of g16⟩, ⟨_, rfl⟩, _, rfl, (by show 1 ≤ sizeLine; decide), fun lp nlp => ?_⟩
    have slp := Same.new (o := .lst [V.str part]) nlp
    have B17 := B16.keep slp
    obtain ⟨o16, eb16⟩ := bag_some B16
    have lpb : lp ≠ b := (ne_of_none eb16 nlp).symm
    refine ⟨_, rfl, b, c, 3, _, rfl, B17, by omega, by decide, by decide, fun r2 G18 r20 r21 B18 e18 => ?_⟩
    obtain ⟨j2, rfl⟩ : ∃ n : Nat, r2 = (n : Int) := ⟨r2.toNat, by omega⟩
    have hj2 : j2 < 3 := by omega
    have glp : G18 lp = some (.lst [V.str part]) := e18 _ _ upd_same lpb
    have gpl2 : G18 pl = some (.lst ((pool ++ [goal ++ " = " ++ Txt.join " + " ys]).map V.str)) := e18 _ _ (slp _ _ g16) plb
    have ei : ((2 : Int) + (j2 : Int)).toNat = 2 + j2 := by omega
    refine ⟨_, _, rfl, rfl, _, rfl, by omega, by omega, ?_⟩
    rw [ei]
    refine fun D nD => lc_range (lo := 0) (n := 2 + j2) (fun j G' => G' = upd G18 D (.lst (((List.range j).map kText).map V.str))) rfl ?_ ?_
    · rintro j G' hj rfl
      refine ⟨rfl, ?_⟩
      unfold tYes
      refine iteT ?_
      obtain ⟨_, _, k3, k4⟩ := k_tl j (by omega)
      rw [Int.zero_add]
      refine ⟨_, rfl, _, rfl, k4, _, _, rfl, rfl, okl (n := 10) (m := 10) (by decide +kernel) (Nat.le_trans k3 (by decide)) (by decide), _, upd_same, ?_, ?_⟩
      · rw [List.length_map, List.length_map, List.length_range]
        exact Nat.lt_of_lt_of_le (by omega : j < 10) (by decide)
      · rw [upd_upd, List.range_succ, List.map_append, List.map_append]
        rfl
    · rintro G' rfl
      have sD := Same.new (o := .lst (((List.range (2 + j2)).map kText).map V.str)) nD
      obtain ⟨zs, hzs⟩ : ∃ zs, zs = part :: (List.range (2 + j2)).map kText := ⟨_, rfl⟩
      have ez : [V.str part] ++ ((List.range (2 + j2)).map kText).map V.str = zs.map V.str := by
        rw [hzs]
        rfl
      have zsl : zs.length = 3 + j2 := by
        rw [hzs, List.length_cons, List.length_map, List.length_range]
        omega
      have zs1 : ∀ t ∈ zs, Wd t 3 := by
        intro t ht
        rw [hzs] at ht
        rcases List.mem_cons.mp ht with e | ht
        · rw [e]; exact wp
        · obtain ⟨k0, hk0, rfl⟩ := List.mem_map.mp ht
          exact k_wd k0 (by have := List.mem_range.mp hk0; omega)
      have zsn : zs ≠ [] := by rw [hzs]; simp
      refine ⟨lp, D, [V.str part], _, rfl, rfl, sD _ _ glp, upd_same, (by rw [List.length_map, List.length_map, List.length_range]; exact Nat.le_trans (by show 1 + (2 + j2) ≤ 10; omega) (by decide)), fun lq nlq => ?_⟩
      rw [ez]
      have slq := Same.new (o := .lst (zs.map V.str)) nlq
      have wk : Wd (Txt.join " and not " zs) 25 := (Wd.joined (s := " and not ") (n := 3) ["and", "not"] (by decide +kernel) (by simp) (by decide +kernel) zsn zs1).mono (by rw [zsl]; show (3 + j2) * 5 ≤ 25; omega)
      have t9 : Wd ("if " ++ Txt.join " and not " zs) 26 := wk.pre ["if"] (by decide +kernel) (by simp) (by decide +kernel)
      refine ⟨_, lq, zs, rfl, rfl, .inl (SqL.of upd_same), sum_ok zs1 (by omega) (by decide +kernel), _, _, rfl, rfl, okl qi wk.len (by decide), ?_⟩
      have sR := sD.trans slq
      refine ⟨pl, _, _, rfl, rfl, sR _ _ gpl2, by rw [List.length_map, List.length_append, hpl]; show 8 < sizeLine; decide, ?_⟩
      have B19 := bag_put (o := .lst ((pool ++ [goal ++ " = " ++ Txt.join " + " ys]).map V.str ++ [V.str ("if " ++ Txt.join " and not " zs)])) (B18.keep sR) plb plc
      have f19 := but_put (o := .lst ((pool ++ [goal ++ " = " ++ Txt.join " + " ys]).map V.str ++ [V.str ("if " ++ Txt.join " and not " zs)])) fbase npl ((f16.trans (dBut_same slp)).trans (e18.trans (dBut_same sR)))
      obtain ⟨ps, hps⟩ : ∃ ps, ps = (pool ++ [goal ++ " = " ++ Txt.join " + " ys]) ++ ["if " ++ Txt.join " and not " zs] := ⟨_, rfl⟩
      have psl : ps.length = 9 := by rw [hps, List.length_append, List.length_append, hpl]; rfl
      have psw : ∀ t ∈ ps, Wd t 40 := by
        intro t ht
        rw [hps] at ht
        rcases List.mem_append.mp ht with ht | ht
        · rcases List.mem_append.mp ht with ht | ht
          · exact (wpool t ht).mono (by decide)
          · rw [List.mem_singleton.mp ht]; exact t8.mono (by decide)
        · rw [List.mem_singleton.mp ht]; exact t9.mono (by decide)
      refine ⟨_, rfl, _, rfl, pick_at (E := E0) (l := pl) (xs := ps) B19 (by omega) (by rw [upd_same, hps, List.map_append (l₁ := pool ++ _)]; rfl) plb (by rw [psl]; rfl) (by rw [psl]; decide) (by rw [psl]; decide) fun t ht G20 B20 e20 => ?_⟩
      exact k t (psw t ht) G20 (bag_up B20 (by omega)) (f19.trans e20)

end
end K02

set_option Elab.async false
set_option linter.all false
set_option maxRecDepth 100000
set_option maxHeartbeats 8000000
/-! k02, the law: lines spoiled -/
namespace K02
open PySem L2
open K02D (TxtB BagAt spBag spDraw)
def odds7 : List Str := ["+", "=", "", "word", "7", "and", "|"]
theorem odds_in : ∀ s ∈ odds7, s ∈ allW := by decide +kernel
theorem all_lay : ∀ w ∈ allW, PyData.canLay0 (.str w) = true := by decide +kernel
theorem shapedW {ws : List Str} (h : ∀ w ∈ ws, w ∈ allW) : SeqAt.shaped (.list (ws.map PyData.str)) = true := shapedStr fun p hp => all_lay p (h p hp)
theorem Wd.words {ws : List Str} {n : Nat} (h : ∀ w ∈ ws, w ∈ allW) (hl : ws.length ≤ n) (hn : 1 ≤ n) : Wd (Txt.join " " ws) n := by
  by_cases e : ws = []
  · subst e
    refine ⟨[""], by decide +kernel, by simp, by decide +kernel, hn⟩
  · refine ⟨ws, ?_, e, h, hl⟩
    rw [TL.join_eq, TL.tl_join]
    rfl
theorem word_sum : ∀ {ws : List Str}, (∀ w ∈ ws, w ∈ allW) → (ws.map fun x => x.length).sum ≤ ws.length * 40
  | [], _ => Nat.zero_le _
  | x :: ws, h => by
    have ih := word_sum (ws := ws) fun t ht => h t (List.mem_cons_of_mem _ ht)
    have := (all_free x (h x (List.mem_cons_self ..))).2
    rw [List.map_cons, List.sum_cons, List.length_cons, Nat.succ_mul]
    omega
theorem cut_ab (ws : List Str) (a d : Nat) : cutV (ws.map V.str) (some (a : Int)) (some ((a : Int) + (d : Int))) = ((ws.drop a).take d).map V.str := by
  unfold cutV HT.sIx
  have h1 : ¬ ((a : Int) < 0) := by omega
  have h2 : ¬ ((a : Int) + (d : Int) < 0) := by omega
  have e1 : ((a : Int) + (d : Int)).toNat = a + d := by omega
  have e2 : (a : Int).toNat = a := by omega
  simp only [h1, h2, if_false, e1, e2, List.length_map]
  rw [← List.map_drop, ← List.map_take]
  congr 1
  by_cases h : a ≤ ws.length
  · rw [Nat.min_eq_left h]
    by_cases h' : a + d ≤ ws.length
    · rw [Nat.min_eq_left h', Nat.add_sub_cancel_left]
    · rw [Nat.min_eq_right (by omega), List.take_of_length_le (by rw [List.length_drop]; omega), List.take_of_length_le (by rw [List.length_drop]; omega)]
  · rw [Nat.min_eq_right (by omega : ws.length ≤ a), Nat.min_eq_right (by omega), List.drop_of_length_le (Nat.le_refl _), List.drop_of_length_le (by omega), List.take_nil, List.take_nil]
def AV (G : Hp) (v : V) : Prop := ∃ (la : Addr) (av : List Str), v = .ref la ∧ G la = some (.lst (av.map V.str)) ∧ (∀ w ∈ av, w ∈ allW) ∧ av.length ≤ 2
theorem AV.keep {G G' : Hp} {v : V} (h : AV G v) (s : Same G G') : AV G' v := by
  obtain ⟨la, av, a, b, c, d⟩ := h
  exact ⟨la, av, a, s _ _ b, c, d⟩
theorem all5 {G : Hp} {v0 v1 v2 v3 v4 : V} (c0 : AV G v0) (c1 : AV G v1) (c2 : AV G v2) (c3 : AV G v3) (c4 : AV G v4) : ∀ v ∈ [v0, v1, v2, v3, v4], AV G v := by
  intro v hv
  rcases List.mem_cons.mp hv with e | hv
  · rw [e]; exact c0
  rcases List.mem_cons.mp hv with e | hv
  · rw [e]; exact c1
  rcases List.mem_cons.mp hv with e | hv
  · rw [e]; exact c2
  rcases List.mem_cons.mp hv with e | hv
  · rw [e]; exact c3
  · rw [List.mem_singleton.mp hv]; exact c4
theorem bag_ne {c : Addr} {H : Hp} {b : Addr} {m : Nat} {a : Addr} {xs : List V} (B : BagAt c H b m) (h : H a = some (.lst xs)) : a ≠ b := by
  obtain ⟨ns, p, q, r, z, B⟩ := B
  exact ne_of h B.at_ (by intro z; cases z)
def spSpoiled : Sp := fun vs H Q _ => ∃ (b c : Addr) (m : Nat) (t : Str), vs = [.ref b, .str t] ∧ BagAt c H b m ∧ m ≤ 40000 ∧ Wd t 40 ∧ ∀ t', Wd t' 41 → ∀ H', BagAt c H' b (m + 3) → K02D.But b H H' → Q (.str t') H'
section
variable {P : Program} {w : World} {K : PySem.W.Frag} {mg : Str → Option Value} {base : Heap}
abbrev nmSpoil : List Str := ["_law_bag_here", "_law_text", "_law_words", "_law_at", "_law_odd", "_law_late", "_law_amid", "_law_after"]
theorem scSpoil : FnScope nmSpoil ["_law_bag_here", "_law_text"] (defScope sSpoil) := ⟨rfl, rfl, rfl, by decide +kernel, rfl, by decide +kernel, by decide +kernel⟩
theorem ok_spoil {f fD : Addr} {fd fdD : FuncData} (F : Fun K "_law_spoiled" "_law_spoiled" sSpoil f fd) (T : TxtB mg)
    (GD : FnOk P w K mg base CX0 1 fD fdD ["_law_bag_here", "_law_limit"] spDraw) (kD : PySem.W.keepIn K (.ref fD) = true) (bD : Binds K fdD ["_law_bag_here", "_law_limit"] []) (gD : mg "_law_draw" = some (.ref fD)) :
    FnOk P w K mg base CX0 2 f fd ["_law_bag_here", "_law_text"] spSpoiled := by
  have sc := scSpoil
  refine F.ok scSpoil (fun vs H Q E h => ?_) (fun cdv A outer s H vs Q E hr h => ?_)
  · obtain ⟨b, c, m, t, rfl, _⟩ := h
    rfl
  · obtain ⟨b, c, m, t, rfl, B, hm, ht, k⟩ := h
    have hr1 : Room 1 _ := hr.mono (by decide)
    refine ⟨_, pss_cons (ps_set (i := 2) sc.nd rfl (.inl rfl) (pe_split (pv 1) pe_str))
      (pss_cons (ps_par (i := 3) (j := 4) rfl sc.nd rfl rfl (by decide) rfl rfl (pa_cons (pe_call GD hr1 rfl gD kD bD .nil pass0 (pa_cons (pv 0) (pa_cons (pe_callB call_len_seq (by rfl) T.len PySem.boot_len (pa_cons (pv 2) pa_nil)) pa_nil))) (pa_cons (pe_ix ix_list (pe_lst (pa_cons pe_str (pa_cons pe_str (pa_cons pe_str (pa_cons pe_str (pa_cons pe_str (pa_cons pe_str (pa_cons pe_str pa_nil)))))))) (pe_call GD hr1 rfl gD kD bD .nil pass0 (pa_cons (pv 0) (pa_cons pe_int pa_nil))) (fun _ _ => rfl)) pa_nil)) (by rfl))
      (pss_cons (ps_set (i := 5) sc.nd rfl (.inl rfl) (pe_slice sl_list (pv 2) (po_some (pe_op op_add (pv 3) pe_int)) (po_some (pe_op op_add (pv 3) pe_int))))
      (pss_cons (ps_set (i := 6) sc.nd rfl (.inl rfl) (pe_ix ix_list (pe_lst (pa_cons (pe_lst pa_nil) (pa_cons (pe_op op_rep (pe_lst (pa_cons (pe_ix ix_list (pv 2) (pv 3) (fun _ _ => rfl)) pa_nil)) pe_int) (pa_cons (pe_op op_cat (pv 5) (pe_lst (pa_cons (pe_ix ix_list (pv 2) (pv 3) (fun _ _ => rfl)) pa_nil))) (pa_cons (pe_lst (pa_cons (pv 4) (pa_cons (pe_ix ix_list (pv 2) (pv 3) (fun _ _ => rfl)) pa_nil))) (pa_cons (pe_lst (pa_cons (pv 4) pa_nil)) pa_nil)))))) (pe_call GD hr1 rfl gD kD bD .nil pass0 (pa_cons (pv 0) (pa_cons pe_int pa_nil))) (fun _ _ => rfl)))
      (pss_cons (ps_set (i := 7) sc.nd rfl (.inl rfl) (pe_op op_add (pe_op op_add (pv 3) pe_int) (pe_op op_mul (pe_callB call_len_seq (by rfl) T.len PySem.boot_len (pa_cons (pv 5) pa_nil)) (pe_callTy call_int1 (by rfl) T.int (by decide +kernel) (pa_cons (pe_cmpR (op_eqD hr.units) (pv 6) (pe_op op_cat (pv 5) (pe_lst (pa_cons (pe_ix ix_list (pv 2) (pv 3) (fun _ _ => rfl)) pa_nil))) (nomark _)) pa_nil)))))
      (pss_one (ps_ret (pe_join pe_str (pe_op op_cat (pe_op op_cat (pe_slice sl_list (pv 2) po_none (po_some (pv 3))) (pv 6)) (pe_slice sl_list (pv 2) (po_some (pv 7)) po_none))))))))), ?_⟩
    obtain ⟨w1, w2, w3, w4⟩ := ht.split
    obtain ⟨ws, hws⟩ : ∃ ws, ws = Txt.split t " " := ⟨_, rfl⟩
    rw [← hws] at w1 w2 w3
    obtain ⟨ob, eb⟩ := bag_some B
    have tl := ht.len
    refine ⟨_, rfl, ⟨_, rfl⟩, t, " ", rfl, rfl, rfl, Nat.le_trans (by omega : t.length + 2 ≤ 2000) (by decide), fun W0 nW => ?_⟩
    rw [← hws]
    have sW := Same.new (o := .lst (ws.map V.str)) nW
    have Wb : W0 ≠ b := (ne_of_none eb nW).symm
    have wpos : 0 < ws.length := List.length_pos_iff.mpr w1
    refine ⟨_, rfl, _, rfl, W0, _, rfl, .inl (SqL.of upd_same), b, c, _, m, rfl, B.keep sW, by omega, ?_, ?_, fun r1 G1 r10 r11 B1 e1 => ?_⟩
    · rw [List.length_map]; omega
    · rw [List.length_map]; omega
    rw [List.length_map] at r11
    obtain ⟨p, rfl⟩ : ∃ n : Nat, r1 = (n : Int) := ⟨r1.toNat, by omega⟩
    have hp : p < ws.length := by omega
    refine ⟨(by show 7 ≤ sizeLine; decide), fun l1 nl1 => ⟨_, rfl, pick_new (E := E0) (xs := odds7) B1 (by omega) nl1 rfl (by decide) (by decide) fun odd hodd G2 B2 e2 => ⟨_, _, rfl, ?_⟩⟩⟩
    have e12 := e1.trans e2
    have gW : G2 W0 = some (.lst (ws.map V.str)) := e12 _ _ upd_same Wb
    have wo := odds_in odd hodd
    obtain ⟨x, hx⟩ : ∃ x, ws[p]? = some x := ⟨_, List.getElem?_eq_getElem hp⟩
    have wx : x ∈ allW := w2 x (List.mem_of_getElem? hx)
    have atx : (ws.map V.str)[p]? = some (V.str x) := by rw [List.getElem?_map, hx]; rfl
    obtain ⟨lt, hlt⟩ : ∃ lt, lt = (ws.drop (p + 1)).take 1 := ⟨_, rfl⟩
    have ltw : ∀ v ∈ lt, v ∈ allW := fun v hv => w2 v (List.mem_of_mem_drop (List.mem_of_mem_take (hlt ▸ hv)))
    have ltl : lt.length ≤ 1 := by rw [hlt, List.length_take]; omega
    have cl : cutV (ws.map V.str) (some ((p : Int) + 1)) (some ((p : Int) + 2)) = lt.map V.str := by rw [hlt]; exact cut_ab ws (p + 1) 1
    refine ⟨_, rfl, _, rfl, _, _, rfl, rfl, _, rfl, _, rfl, _, _, rfl, rfl, _, rfl, W0, _, rfl, SqL.of gW, fun l2 nl2 => ?_⟩
    rw [cl]
    have s2 := Same.new (o := .lst (lt.map V.str)) nl2
    -- amid
    refine ⟨(by show 0 ≤ sizeLine; decide), fun a0 na0 => ?_⟩
    have k3 := Same.new (o := .lst []) na0
    have s3 := s2.trans k3
    refine ⟨_, rfl, _, rfl, W0, _, p, _, rfl, rfl, SqL.of (s3 _ _ gW), atI_nat atx, (by show 1 ≤ sizeLine; decide), fun q1 nq1 => ?_⟩
    have k4 := Same.new (o := .lst [V.str x]) nq1
    have s4 := s3.trans k4
    refine ⟨q1, 2, [V.str x], rfl, rfl, upd_same, by decide, by decide, (by show 2 ≤ sizeLine; decide), fun a1 na1 => ?_⟩
    have s5n := Same.new (o := .lst ([x, x].map V.str)) na1
    have s5 := s4.trans s5n
    refine ⟨_, rfl, _, rfl, _, rfl, W0, _, p, _, rfl, rfl, SqL.of (s5 _ _ gW), atI_nat atx, (by show 1 ≤ sizeLine; decide), fun q2 nq2 => ?_⟩
    have s6n := Same.new (o := .lst [V.str x]) nq2
    have s6 := s5.trans s6n
    have t6 := k3.trans (k4.trans (s5n.trans s6n))
    refine ⟨l2, q2, lt.map V.str, [V.str x], rfl, rfl, t6 _ _ upd_same, upd_same, (by rw [List.length_map]; exact Nat.le_trans (Nat.add_le_add_right ltl 1) (by decide)), fun a2 na2 => ?_⟩
    have ea2 : lt.map V.str ++ [V.str x] = (lt ++ [x]).map V.str := by rw [List.map_append]; rfl
    rw [ea2]
    have s7n := Same.new (o := .lst ((lt ++ [x]).map V.str)) na2
    have s7 := s6.trans s7n
    refine ⟨_, rfl, _, rfl, _, rfl, W0, _, p, _, rfl, rfl, SqL.of (s7 _ _ gW), atI_nat atx, (by show 2 ≤ sizeLine; decide), fun a3 na3 => ?_⟩
    have s8n := Same.new (o := .lst ([odd, x].map V.str)) na3
    have s8 := s7.trans s8n
    refine ⟨_, rfl, (by show 1 ≤ sizeLine; decide), fun a4 na4 => ?_⟩
    have s9n := Same.new (o := .lst ([odd].map V.str)) na4
    have s9 := s8.trans s9n
    refine ⟨(by show 5 ≤ sizeLine; decide), fun a5 na5 => ?_⟩
    have s10n := Same.new (o := .lst [V.ref a0, V.ref a1, V.ref a2, V.ref a3, V.ref a4]) na5
    have s10 := s9.trans s10n
    have x1 : ∀ w ∈ [x], w ∈ allW := fun w hw => by rw [List.mem_singleton.mp hw]; exact wx
    have o1 : ∀ w ∈ [odd], w ∈ allW := fun w hw => by rw [List.mem_singleton.mp hw]; exact wo
    have ltx : ∀ w ∈ lt ++ [x], w ∈ allW := mem_app ltw x1
    have c0 : AV _ (V.ref a0) := AV.keep ⟨a0, [], rfl, upd_same, by simp, by simp⟩ (k4.trans (s5n.trans (s6n.trans (s7n.trans (s8n.trans (s9n.trans s10n))))))
    have c1 : AV _ (V.ref a1) := AV.keep ⟨a1, [x, x], rfl, upd_same, mem_app x1 x1, by simp⟩ (s6n.trans (s7n.trans (s8n.trans (s9n.trans s10n))))
    have c2 : AV _ (V.ref a2) := AV.keep ⟨a2, lt ++ [x], rfl, upd_same, ltx, by rw [List.length_append]; show lt.length + 1 ≤ 2; omega⟩ (s8n.trans (s9n.trans s10n))
    have c3 : AV _ (V.ref a3) := AV.keep ⟨a3, [odd, x], rfl, upd_same, mem_app o1 x1, by simp⟩ (s9n.trans s10n)
    have c4 : AV _ (V.ref a4) := AV.keep ⟨a4, [odd], rfl, upd_same, o1, by simp⟩ s10n
    have call := all5 c0 c1 c2 c3 c4
    have B10 := B2.keep s10
    have a5b := bag_ne B10 upd_same
    refine ⟨_, rfl, b, c, 5, _, rfl, B10, by omega, by decide, by decide, fun r3 G3 r30 r31 B3 e3 => ?_⟩
    obtain ⟨j3, rfl⟩ : ∃ n : Nat, r3 = (n : Int) := ⟨r3.toNat, by omega⟩
    obtain ⟨v, hv⟩ : ∃ v, [V.ref a0, V.ref a1, V.ref a2, V.ref a3, V.ref a4][j3]? = some v := ⟨_, List.getElem?_eq_getElem (show j3 < 5 by omega)⟩
    obtain ⟨la, av, rfl, hla, hav, havl⟩ := call v (List.mem_of_getElem? hv)
    have gla := e3 _ _ hla (bag_ne B10 hla)
    have g5 : G3 a5 = some (.lst [V.ref a0, V.ref a1, V.ref a2, V.ref a3, V.ref a4]) := e3 _ _ upd_same a5b
    have gW3 : G3 W0 = some (.lst (ws.map V.str)) := e3 _ _ (s10 _ _ gW) Wb
    have t10 := t6.trans (s7n.trans (s8n.trans (s9n.trans s10n)))
    have gL : G3 l2 = some (.lst (lt.map V.str)) := e3 _ _ (t10 _ _ upd_same) (bag_ne B10 (t10 _ _ upd_same))
    refine ⟨a5, _, j3, V.ref la, rfl, rfl, SqL.of g5, atI_nat hv, ?_⟩
    -- after
    refine ⟨_, rfl, _, _, rfl, rfl, _, rfl, l2, _, rfl, .inl (SqL.of gL), ?_⟩
    refine ⟨_, rfl, _, rfl, _, rfl, _, rfl, W0, _, p, _, rfl, rfl, SqL.of gW3, atI_nat atx, (by show 1 ≤ sizeLine; decide), fun q5 nq5 => ?_⟩
    have u1 := Same.new (o := .lst [V.str x]) nq5
    refine ⟨l2, q5, lt.map V.str, [V.str x], rfl, rfl, u1 _ _ gL, upd_same, (by rw [List.length_map]; exact Nat.le_trans (Nat.add_le_add_right ltl 1) (by decide)), fun q6 nq6 => ?_⟩
    rw [ea2]
    have u2 := u1.trans (Same.new (o := .lst ((lt ++ [x]).map V.str)) nq6)
    refine ⟨.list (av.map PyData.str), .list ((lt ++ [x]).map PyData.str), .lst (SqL.of (u2 _ _ gla)) (dpWs _), .lst (SqL.of upd_same) (dpWs _), shapedW hav, shapedW ltx, ?_⟩
    rw [eqvL]
    obtain ⟨bb, hbb⟩ : ∃ bb : Bool, bb = decide (av = lt ++ [x]) := ⟨_, rfl⟩
    rw [← hbb]
    refine .inr ⟨bb, rfl, _, _, rfl, rfl, ?_, _, _, rfl, rfl, ?_⟩
    · exact .inl ⟨by omega, by rw [List.length_map]; omega⟩
    obtain ⟨z, hz, hz1⟩ : ∃ z : Nat, (p : Int) + 1 + ((lt.map V.str).length : Int) * (if bb = true then 1 else 0) = (z : Int) ∧ p + 1 ≤ z := by
      cases bb
      · exact ⟨p + 1, by simp, Nat.le_refl _⟩
      · exact ⟨p + 1 + (lt.map V.str).length, by simp, by omega⟩
    dsimp only
    rw [hz]
    have u2w := u2 _ _ gW3
    have u2a := u2 _ _ gla
    -- the text
    have ch : cutV (ws.map V.str) none (some (p : Int)) = (ws.take p).map V.str := cut_hi ws p
    have cz : cutV (ws.map V.str) (some (z : Int)) none = (ws.drop z).map V.str := cut_lo ws z
    have tw : ∀ w ∈ ws.take p, w ∈ allW := fun w hw => w2 w (List.mem_of_mem_take hw)
    have dw : ∀ w ∈ ws.drop z, w ∈ allW := fun w hw => w2 w (List.mem_of_mem_drop hw)
    have tl1 : (ws.take p).length = p := by rw [List.length_take]; omega
    have dl1 : (ws.drop z).length = ws.length - z := List.length_drop ..
    refine ⟨⟨_, rfl⟩, _, rfl, _, rfl, _, rfl, W0, _, rfl, SqL.of u2w, fun y1 ny1 => ?_⟩
    rw [ch]
    have v1 := Same.new (o := .lst ((ws.take p).map V.str)) ny1
    refine ⟨_, rfl, y1, la, _, _, rfl, rfl, upd_same, v1 _ _ u2a, (by rw [List.length_map, List.length_map]; exact Nat.le_trans (by omega : _ ≤ 100) (by decide)), fun y2 ny2 => ?_⟩
    rw [← List.map_append]
    have v2 := Same.new (o := .lst ((ws.take p ++ av).map V.str)) ny2
    have v12 := v1.trans v2
    refine ⟨_, rfl, _, rfl, _, rfl, W0, _, rfl, SqL.of (v12 _ _ u2w), fun y3 ny3 => ?_⟩
    rw [cz]
    have v3 := Same.new (o := .lst ((ws.drop z).map V.str)) ny3
    refine ⟨y2, y3, _, _, rfl, rfl, v3 _ _ upd_same, upd_same, (by rw [List.length_map, List.length_map, List.length_append]; exact Nat.le_trans (by omega : _ ≤ 100) (by decide)), fun y4 ny4 => ?_⟩
    rw [← List.map_append]
    obtain ⟨rs, hrs⟩ : ∃ rs, rs = (ws.take p ++ av) ++ ws.drop z := ⟨_, rfl⟩
    have rsw : ∀ w ∈ rs, w ∈ allW := by rw [hrs]; exact mem_app (mem_app tw hav) dw
    have rsl : rs.length ≤ 41 := by rw [hrs, List.length_append, List.length_append]; omega
    rw [← hrs]
    have v4 := Same.new (o := .lst (rs.map V.str)) ny4
    have sm := word_sum rsw
    have sl : (" " : Str).length = 1 := by decide +kernel
    refine ⟨_, y4, rs, rfl, rfl, .inl (SqL.of upd_same), (by rw [sl]; omega), ?_⟩
    refine k _ (Wd.words rsw rsl (by decide)) _ (((B3.keep u2).keep v12).keep (v3.trans v4)) ?_
    exact ((dBut_same sW).trans e12).trans ((dBut_same s10).trans (e3.trans ((dBut_same u2).trans ((dBut_same v12).trans (dBut_same (v3.trans v4))))))

end
end K02

set_option Elab.async false
set_option linter.all false
set_option maxRecDepth 100000
set_option maxHeartbeats 8000000
/-! k02: what holds of all words -/
namespace K02
open PySem L2
def numOkB (w : Str) : Bool := !(Txt.isdigit w && decide (w.length ≤ 30)) || (intText? w).isSome
theorem word_a : ∀ w ∈ allW, numOkB w = true ∧ plainB w = Txt.isdigit w ∧ numL w < 2 ^ 110 ∧ numM w = (if numL w < 0 then none else some (numL w)) := by decide +kernel
theorem word_r : ∀ w ∈ allW, 0 < numL w → isRunM (numL w) = runL (numL w).toNat := by decide +kernel
theorem word_ok {w : Str} (h : w ∈ allW) : LOk w := by
  obtain ⟨a, b, _⟩ := word_a w h
  refine ⟨⟨Nat.le_trans (all_free w h).2 (by decide), fun d l => ?_, all_lay w h⟩, b⟩
  unfold numOkB at a
  rw [d, decide_eq_true l] at a
  exact Option.isSome_iff_exists.mp a
theorem word_ws {ws : List Str} (h : ∀ w ∈ ws, w ∈ allW) : WsOk ws := fun w hw => (word_ok (h w hw)).ok
theorem Wd.row {t : Str} {n : Nat} (h : Wd t n) (hn : n ≤ 100) : RowOk t := by
  obtain ⟨a, b, c, _⟩ := h.split
  have := h.len
  exact ⟨Nat.le_trans (by omega : t.length + 2 ≤ 10000) (by decide), word_ws b, a, by omega⟩
theorem names_alike (kd x : Str) : x ∈ namesM kd ↔ x ∈ namesL kd := by
  unfold namesM namesL regs
  simp only [List.mem_append, List.mem_cons, List.mem_nil_iff, or_false]
  constructor
  · rintro (h | h | h)
    · exact .inr (h.elim .inl fun h => .inr (h.elim .inl fun h => .inr (.inl h)))
    · exact .inl h
    · exact .inr (.inr (.inr (.inr h)))
  · rintro (h | h | h | h | h)
    · exact .inr (.inl h)
    · exact .inl (.inl h)
    · exact .inl (.inr (.inl h))
    · exact .inl (.inr (.inr h))
    · exact .inr (.inr h)
end K02

set_option Elab.async false
set_option linter.all false
set_option maxRecDepth 100000
set_option maxHeartbeats 8000000
/-! k02: sums, alike -/
namespace K02
open PySem L2
theorem used_app (acc : Acc) (g : Int) (x y : Str) : (valV (usedL (acc ++ [(g, .str x)])) (.inr y : Key)).isSome = ((valV (usedL acc) (.inr y : Key)).isSome || decide (y = x)) := by
  rw [usedL_add]
  unfold valV
  rw [Option.isSome_map, Option.isSome_map, List.find?_append]
  show ((List.find? _ (usedL acc)).or (List.find? _ [((.inr x : Key), V.bl true)])).isSome = _
  rw [Option.isSome_or]
  congr 1
  rw [List.find?_cons]
  by_cases e : y = x
  · subst e
    simp
  · have e2 : ¬ ((.inr x : Key) = .inr y) := fun z => e (Sum.inr.inj z).symm
    simp [e, e2]
theorem used_num (acc : Acc) (n : Int) : (valV (usedL acc) (.inl n : Key)).isSome = false := by
  unfold valV
  rw [Option.isSome_map]
  induction acc with
  | nil => rfl
  | cons p r ih =>
    obtain ⟨g, v⟩ := p
    cases v with
    | str x =>
      show (List.find? _ (((.inr x : Key), V.bl true) :: usedL r)).isSome = false
      rw [List.find?_cons]
      have e2 : ¬ ((.inr x : Key) = .inl n) := fun z => by cases z
      simp only [e2, decide_false]
      exact ih
    | _ => exact ih
theorem used_int (acc : Acc) (g n : Int) (y : Str) : (valV (usedL (acc ++ [(g, .int n)])) (.inr y : Key)).isSome = (valV (usedL acc) (.inr y : Key)).isSome := by
  rw [usedL_add]
  show (valV (usedL acc ++ []) (.inr y : Key)).isSome = _
  rw [List.append_nil]
theorem names_neg : ∀ kd ∈ kindsL, ∀ t ∈ namesL kd, numL t < 0 := by decide +kernel
theorem sum_go (kd : Str) (hk : kd ∈ kindsL) : ∀ (ps : List (Str × Str)) (acc : Acc) (seen : List Str), (∀ y, (valV (usedL acc) (.inr y : Key)).isSome = decide (y ∈ seen)) → (∀ p ∈ ps, p.2 ∈ allW) →
    (sumGo (namesM kd) ps acc).isSome = (ps.all (fun p => decide (p.1 ∈ [("+" : Str), "-"])) && lsumGo (namesL kd) (ps.map (·.2)) seen)
  | [], acc, seen, _, _ => rfl
  | (s, t) :: r, acc, seen, hs, hw => by
    have ht : t ∈ allW := hw (s, t) (List.mem_cons_self ..)
    have hr : ∀ p ∈ r, p.2 ∈ allW := fun p hp => hw p (List.mem_cons_of_mem _ hp)
    obtain ⟨_, _, _, hn⟩ := word_a t ht
    rw [List.all_cons, List.map_cons]
    unfold sumGo lsumGo termV
    have hnames := names_alike kd t
    by_cases h1 : t ∈ namesM kd
    · have h1' := hnames.mp h1
      rw [if_pos h1]
      dsimp only
      have neg : numL t < 0 := names_neg kd hk t h1'
      show (if (decide (s ∈ [("+" : Str), "-"]) && !(valV (usedL acc) (.inr t : Key)).isSome) = true then sumGo (namesM kd) r (acc ++ [(sgn s, .str t)]) else none).isSome = _
      rw [hs t]
      by_cases h2 : t ∈ seen
      · have h3 : ¬ (t ∈ namesL kd ∧ t ∉ seen) := fun z => z.2 h2
        rw [if_neg h3, if_pos neg, decide_eq_true h2]
        simp
      · rw [if_pos (show t ∈ namesL kd ∧ ¬ t ∈ seen from ⟨h1', h2⟩), decide_eq_false h2]
        by_cases h4 : s ∈ [("+" : Str), "-"]
        · rw [decide_eq_true h4]
          simp only [Bool.not_false, Bool.and_self, if_true, Bool.true_and]
          exact sum_go kd hk r _ _ (fun y => by rw [used_app, hs y]; by_cases q : y ∈ seen <;> by_cases q2 : y = t <;> simp [q, q2]) hr
        · rw [decide_eq_false h4]
          rfl
    · have h1' : t ∉ namesL kd := fun z => h1 (hnames.mpr z)
      have h3 : ¬ (t ∈ namesL kd ∧ t ∉ seen) := fun z => h1' z.1
      rw [if_neg h1, if_neg h3, hn]
      by_cases h5 : numL t < 0
      · rw [if_pos h5, if_pos h5]
        simp
      · rw [if_neg h5, if_neg h5]
        show (if (decide (s ∈ [("+" : Str), "-"]) && !(valV (usedL acc) (.inl (numL t) : Key)).isSome) = true then sumGo (namesM kd) r (acc ++ [(sgn s, .int (numL t))]) else none).isSome = _
        rw [used_num]
        by_cases h4 : s ∈ [("+" : Str), "-"]
        · rw [decide_eq_true h4]
          simp only [Bool.not_false, Bool.and_self, if_true, Bool.true_and]
          exact sum_go kd hk r _ _ (fun y => by rw [used_int, hs y]) hr
        · rw [decide_eq_false h4]
          rfl
theorem st01 : stepIx 0 1 = [0] := by decide +kernel
theorem st03 : stepIx 0 3 = [0, 2] := by decide +kernel
theorem st05 : stepIx 0 5 = [0, 2, 4] := by decide +kernel
theorem st07 : stepIx 0 7 = [0, 2, 4, 6] := by decide +kernel
theorem st11 : stepIx 1 1 = [] := by decide +kernel
theorem st13 : stepIx 1 3 = [1] := by decide +kernel
theorem st15 : stepIx 1 5 = [1, 3] := by decide +kernel
theorem st17 : stepIx 1 7 = [1, 3, 5] := by decide +kernel
theorem len1 {l : List Str} (h : l.length = 1) : ∃ a, l = [a] := match l, h with | [a], _ => ⟨a, rfl⟩
theorem len3 {l : List Str} (h : l.length = 3) : ∃ a b c, l = [a, b, c] := match l, h with | [a, b, c], _ => ⟨a, b, c, rfl⟩
theorem len5 {l : List Str} (h : l.length = 5) : ∃ a b c d e, l = [a, b, c, d, e] := match l, h with | [a, b, c, d, e], _ => ⟨a, b, c, d, e, rfl⟩
theorem len7 {l : List Str} (h : l.length = 7) : ∃ a b c d e f g, l = [a, b, c, d, e, f, g] := match l, h with | [a, b, c, d, e, f, g], _ => ⟨a, b, c, d, e, f, g, rfl⟩
theorem plus_in : decide (("+" : Str) ∈ [("+" : Str), "-"]) = true := by decide +kernel
theorem sig_all {L : Prop} [Decidable L] (hl : L) (ss : List Str) (bs : List Str) (hlen : ss.length = bs.length) (a : Str) :
    ((("+" : Str), a) :: ss.zip bs).all (fun p => decide (p.1 ∈ [("+" : Str), "-"])) = decide (L ∧ signB ss = []) := by
  have h1 : (ss.zip bs).all (fun p => decide (p.1 ∈ [("+" : Str), "-"])) = decide (signB ss = []) := by
    induction ss generalizing bs with
    | nil => rfl
    | cons s r ih =>
      cases bs with
      | nil => cases hlen
      | cons b q =>
        have e := ih q (Nat.succ.inj hlen)
        rw [List.zip_cons_cons, List.all_cons, e]
        unfold signB
        rw [List.filter_cons]
        by_cases z : s ∈ [("+" : Str), "-"]
        · simp only [decide_eq_true z, Bool.not_true, Bool.true_and]
          rfl
        · simp only [decide_eq_false z, Bool.not_false, Bool.false_and]
          exact (decide_eq_false (by simp)).symm
  rw [List.all_cons, plus_in, Bool.true_and, h1]
  by_cases z : signB ss = [] <;> simp [z, hl]
theorem sig1 {L : Prop} [Decidable L] (hl : L) {a b s : Str} : ([(("+" : Str), a), (s, b)] : List (Str × Str)).all (fun p => decide (p.1 ∈ [("+" : Str), "-"])) = decide (L ∧ signB [s] = []) := sig_all hl [s] [b] rfl a
theorem sig2 {L : Prop} [Decidable L] (hl : L) {a b s t c : Str} : ([(("+" : Str), a), (s, b), (t, c)] : List (Str × Str)).all (fun p => decide (p.1 ∈ [("+" : Str), "-"])) = decide (L ∧ signB [s, t] = []) := sig_all hl [s, t] [b, c] rfl a
theorem sig3 {L : Prop} [Decidable L] (hl : L) {a b s t c u d : Str} : ([(("+" : Str), a), (s, b), (t, c), (u, d)] : List (Str × Str)).all (fun p => decide (p.1 ∈ [("+" : Str), "-"])) = decide (L ∧ signB [s, t, u] = []) := sig_all hl [s, t, u] [b, c, d] rfl a
theorem sum_eq {kd : Str} (hk : kd ∈ kindsL) {ws : List Str} (hw : ∀ w ∈ ws, w ∈ allW) : (sumM ws (namesM kd)).isSome = sumL kd ws := by
  unfold sumM sumL
  by_cases hl : ws.length % 2 = 0 ∨ 7 < ws.length
  · have h2 : ¬ (ws.length ∈ lens4 ∧ signB (pickS (stepIx 1 ws.length) ws) = []) := by
      intro h
      have h1 := h.1
      unfold lens4 at h1
      simp only [List.mem_cons, List.mem_nil_iff, or_false] at h1
      omega
    rw [if_pos hl, if_neg h2]
    rfl
  · rw [if_neg hl]
    have go := sum_go kd hk
    have nil : ∀ y : Str, (valV (usedL []) (.inr y : Key)).isSome = decide (y ∈ ([] : List Str)) := fun y => by simp [usedL, valV]
    have fin : ∀ (ps : List (Str × Str)) (B : Prop) [Decidable B] (is : List Str), prs (("+" : Str) :: ws) = ps → ps.map (·.2) = is → (ps.all (fun p => decide (p.1 ∈ [("+" : Str), "-"])) = decide B) → (∀ p ∈ ps, p.2 ∈ allW) →
        (sumGo (namesM kd) (prs (("+" : Str) :: ws)) []).isSome = (if B then lsumGo (namesL kd) is [] else false) := by
      intro ps B _ is e1 e2 e3 hw2
      rw [e1, go ps [] [] nil hw2, e3, e2]
      by_cases b : B <;> simp [b]
    have hlen : ws.length = 1 ∨ ws.length = 3 ∨ ws.length = 5 ∨ ws.length = 7 := by omega
    have hlm : ws.length ∈ lens4 := by
      unfold lens4
      simp only [List.mem_cons, List.mem_nil_iff, or_false]
      exact hlen
    rcases hlen with e | e | e | e
    · obtain ⟨a, rfl⟩ := len1 e
      refine fin [("+", a)] _ _ rfl (by show _ = pickS (stepIx 0 1) [a]; rw [st01]; rfl) ?_ (fun p hp => ?_)
      · have ep : pickS (stepIx 1 ([a] : List Str).length) [a] = [] := by
          show pickS (stepIx 1 1) [a] = _
          rw [st11]
          rfl
        rw [ep]
        exact (decide_eq_true ⟨hlm, rfl⟩).symm
      · have := List.mem_singleton.mp hp
        subst this
        exact hw a (by simp)
    · obtain ⟨a, s, b, rfl⟩ := len3 e
      refine fin [("+", a), (s, b)] _ _ rfl (by show _ = pickS (stepIx 0 3) [a, s, b]; rw [st03]; rfl) ?_ (fun p hp => ?_)
      · have ep : pickS (stepIx 1 ([a, s, b] : List Str).length) [a, s, b] = [s] := by
          show pickS (stepIx 1 3) [a, s, b] = _
          rw [st13]
          rfl
        rw [ep]
        exact sig1 hlm
      · rcases List.mem_cons.mp hp with e | hp
        · rw [e]; exact hw a (by simp)
        · rw [List.mem_singleton.mp hp]; exact hw b (by simp)
    · obtain ⟨a, s, b, t, c, rfl⟩ := len5 e
      refine fin [("+", a), (s, b), (t, c)] _ _ rfl (by show _ = pickS (stepIx 0 5) [a, s, b, t, c]; rw [st05]; rfl) ?_ (fun p hp => ?_)
      · have ep : pickS (stepIx 1 ([a, s, b, t, c] : List Str).length) [a, s, b, t, c] = [s, t] := by
          show pickS (stepIx 1 5) [a, s, b, t, c] = _
          rw [st15]
          rfl
        rw [ep]
        exact sig2 hlm
      · rcases List.mem_cons.mp hp with e | hp
        · rw [e]; exact hw a (by simp)
        rcases List.mem_cons.mp hp with e | hp
        · rw [e]; exact hw b (by simp)
        · rw [List.mem_singleton.mp hp]; exact hw c (by simp)
    · obtain ⟨a, s, b, t, c, u, d, rfl⟩ := len7 e
      refine fin [("+", a), (s, b), (t, c), (u, d)] _ _ rfl (by show _ = pickS (stepIx 0 7) [a, s, b, t, c, u, d]; rw [st07]; rfl) ?_ (fun p hp => ?_)
      · have ep : pickS (stepIx 1 ([a, s, b, t, c, u, d] : List Str).length) [a, s, b, t, c, u, d] = [s, t, u] := by
          show pickS (stepIx 1 7) [a, s, b, t, c, u, d] = _
          rw [st17]
          rfl
        rw [ep]
        exact sig3 hlm
      · rcases List.mem_cons.mp hp with e | hp
        · rw [e]; exact hw a (by simp)
        rcases List.mem_cons.mp hp with e | hp
        · rw [e]; exact hw b (by simp)
        rcases List.mem_cons.mp hp with e | hp
        · rw [e]; exact hw c (by simp)
        · rw [List.mem_singleton.mp hp]; exact hw d (by simp)
end K02

set_option Elab.async false
set_option linter.all false
set_option maxRecDepth 100000
set_option maxHeartbeats 8000000
/-! k02: lines that set, alike -/
namespace K02
open PySem L2
theorem sign_nil {ss : List Str} (h : signB ss = []) : ∀ s ∈ ss, s ∈ [("+" : Str), "-"] := fun s hs => by
  by_cases z : s ∈ [("+" : Str), "-"]
  · exact z
  · have : s ∈ signB ss := List.mem_filter.mpr ⟨hs, by simp [z]⟩
    rw [h] at this
    cases this
theorem sum_last {kd : Str} {l : List Str} (h : sumL kd l = true) : l.length = 1 ∨ (3 ≤ l.length ∧ l.getD (l.length - 2) Str.empty ∈ [("+" : Str), "-"]) := by
  unfold sumL at h
  split at h
  · rename_i hc
    obtain ⟨h1, h2⟩ := hc
    unfold lens4 at h1
    simp only [List.mem_cons, List.mem_nil_iff, or_false] at h1
    rcases h1 with e | e | e | e
    · exact .inl e
    · obtain ⟨a, s, b, rfl⟩ := len3 e
      have ep : pickS (stepIx 1 ([a, s, b] : List Str).length) [a, s, b] = [s] := by
        show pickS (stepIx 1 3) _ = _
        rw [st13]
        rfl
      rw [ep] at h2
      exact .inr ⟨by simp, sign_nil h2 s (by simp)⟩
    · obtain ⟨a, s, b, t, c, rfl⟩ := len5 e
      have ep : pickS (stepIx 1 ([a, s, b, t, c] : List Str).length) [a, s, b, t, c] = [s, t] := by
        show pickS (stepIx 1 5) _ = _
        rw [st15]
        rfl
      rw [ep] at h2
      exact .inr ⟨by simp, sign_nil h2 t (by simp)⟩
    · obtain ⟨a, s, b, t, c, u, d, rfl⟩ := len7 e
      have ep : pickS (stepIx 1 ([a, s, b, t, c, u, d] : List Str).length) [a, s, b, t, c, u, d] = [s, t, u] := by
        show pickS (stepIx 1 7) _ = _
        rw [st17]
        rfl
      rw [ep] at h2
      exact .inr ⟨by simp, sign_nil h2 u (by simp)⟩
  · cases h
theorem ops_not : ("=" : Str) ∉ shifts ++ masks ∧ ∀ s ∈ [("+" : Str), "-"], s ∉ shifts ++ masks := by decide +kernel
theorem sum_no {kd : Str} {ws : List Str} (hl : 3 ≤ ws.length) (he : ws.getD 1 Str.empty = "=") (ho : ws.getD (ws.length - 2) Str.empty ∈ shifts ++ masks) : sumL kd (ws.drop 2) = false := by
  cases e : sumL kd (ws.drop 2) with
  | false => rfl
  | true =>
    rcases sum_last e with h | ⟨h, hs⟩
    · rw [List.length_drop] at h
      have e2 : ws.length - 2 = 1 := by omega
      rw [e2, he] at ho
      exact absurd ho ops_not.1
    · rw [List.length_drop] at h hs
      have e2 : (ws.drop 2).getD (ws.length - 2 - 2) Str.empty = ws.getD (ws.length - 2) Str.empty := by
        rw [List.getD_eq_getElem?_getD, List.getD_eq_getElem?_getD, List.getElem?_drop]
        congr 2
        omega
      rw [e2] at hs
      exact absurd ho (ops_not.2 _ hs)
theorem oper_shift {s w : Str} (hs : s ∈ shifts) (hw : w ∈ allW) : (operM s w).isSome = decide (1 ≤ numL w ∧ numL w ≤ 63) := by
  obtain ⟨_, _, _, hn⟩ := word_a w hw
  unfold operM betwM
  rw [if_pos hs, hn]
  by_cases h : numL w < 0
  · rw [if_pos h]
    exact (decide_eq_false (by omega)).symm
  · rw [if_neg h]
    unfold betwH
    dsimp only
    by_cases h1 : numL w < 1
    · rw [if_pos (decide_eq_true h1)]
      exact (decide_eq_false (by omega)).symm
    · rw [if_neg (by simpa using h1)]
      by_cases h2 : 63 < numL w
      · rw [if_pos (decide_eq_true h2)]
        exact (decide_eq_false (by omega)).symm
      · rw [if_neg (by simpa using h2)]
        exact (decide_eq_true (by omega)).symm
theorem not_shift : ∀ s ∈ masks, s ∉ shifts := by decide +kernel
theorem oper_mask {s w : Str} (hs : s ∈ masks) (hw : w ∈ allW) : (operM s w).isSome = (decide (0 < numL w) && runL (numL w).toNat) := by
  obtain ⟨_, _, _, hn⟩ := word_a w hw
  have hr := word_r w hw
  unfold operM betwM
  rw [if_neg (not_shift s hs), if_pos hs, hn]
  by_cases h : numL w < 0
  · rw [if_pos h, decide_eq_false (by omega : ¬ 0 < numL w)]
    rfl
  · rw [if_neg h]
    unfold betwH
    dsimp only
    by_cases h1 : numL w < 1
    · rw [if_pos (decide_eq_true h1), decide_eq_false (by omega : ¬ 0 < numL w)]
      rfl
    · rw [if_neg (by simpa using h1)]
      have hp : 0 < numL w := by omega
      rw [decide_eq_true hp, Bool.true_and, ← hr hp]
      dsimp only
      cases isRunM (numL w) <;> rfl
theorem oper_none {s w : Str} (h1 : s ∉ shifts) (h2 : s ∉ masks) : operM s w = none := by
  unfold operM
  rw [if_neg h1, if_neg h2]
theorem stepset_eq {kd : Str} {ws : List Str} {w0 : Str} : (stepSetS kd ws w0).isSome = ((sumM (ws.drop 2) (namesM kd)).isSome || ((sumM ((ws.drop 2).take (ws.length - 4)) (namesM kd)).isSome && (operM (last2 ws) (last1 ws)).isSome)) := by
  unfold stepSetS
  cases sumM (ws.drop 2) (namesM kd) with
  | some a => rfl
  | none =>
    cases sumM ((ws.drop 2).take (ws.length - 4)) (namesM kd) with
    | none => rfl
    | some a =>
      cases operM (last2 ws) (last1 ws) <;> rfl
theorem set_eq {kd : Str} (hk : kd ∈ kindsL) {ws : List Str} (hw : ∀ w ∈ ws, w ∈ allW) (h1 : ws ≠ [("quit" : Str)]) (h2 : ws ≠ [("no" : Str)]) : (stepS kd ws).isSome = setL kd ws := by
  unfold stepS setL
  rw [if_neg h1, if_neg (show ¬ (ws = [("no" : Str)] ∧ kd = "round") from fun z => h2 z.1)]
  by_cases hl : ws.length < 3
  · rw [if_pos hl, if_pos hl]
    rfl
  rw [if_neg hl, if_neg hl]
  by_cases he : ws.getD 1 Str.empty = "="
  case neg =>
    rw [if_neg (fun z => he z.1), if_pos he]
    rfl
  rw [if_neg (show ¬ (ws.getD 1 Str.empty ≠ "=") from fun z => z he)]
  by_cases hg : ws.getD 0 Str.empty ∈ regs ++ [toldM kd]
  case neg =>
    rw [if_neg (fun z => hg z.2), if_pos (show ws.getD 0 Str.empty ∉ [("a" : Str), "b", "c", toldM kd] from hg)]
    rfl
  rw [if_pos ⟨he, hg⟩, if_neg (show ¬ (ws.getD 0 Str.empty ∉ [("a" : Str), "b", "c", toldM kd]) from fun z => z hg), stepset_eq]
  have hd : ∀ w ∈ ws.drop 2, w ∈ allW := fun w h => hw w (List.mem_of_mem_drop h)
  have hm : ∀ w ∈ midL ws, w ∈ allW := fun w h => hd w (List.mem_of_mem_take h)
  have e1 : (sumM (ws.drop 2) (namesM kd)).isSome = sumL kd (ws.drop 2) := sum_eq hk hd
  have e2 : (sumM ((ws.drop 2).take (ws.length - 4)) (namesM kd)).isSome = sumL kd (midL ws) := sum_eq hk hm
  have l1 : last1 ws ∈ allW := by
    have e : ws.getD (ws.length - 1) Str.empty = ws[ws.length - 1]'(by omega) := by rw [List.getD_eq_getElem?_getD, List.getElem?_eq_getElem (by omega)]; rfl
    show ws.getD (ws.length - 1) Str.empty ∈ allW
    rw [e]
    exact hw _ (List.getElem_mem _)
  have l1e : last1 ws = ws.getD (ws.length - 1) Str.empty := rfl
  have l2e : last2 ws = ws.getD (ws.length - 2) Str.empty := rfl
  rw [e1, e2]
  rw [l1e] at l1 ⊢
  rw [l2e]
  by_cases s1 : ws.getD (ws.length - 2) Str.empty ∈ shifts
  · rw [if_pos s1, sum_no (by omega) he (List.mem_append_left _ s1), Bool.false_or, oper_shift s1 l1]
  rw [if_neg s1]
  by_cases s2 : ws.getD (ws.length - 2) Str.empty ∈ masks
  · rw [if_pos s2, sum_no (by omega) he (List.mem_append_right _ s2), Bool.false_or, oper_mask s2 l1]
  rw [if_neg s2, oper_none s1 s2]
  simp
end K02

set_option Elab.async false
set_option linter.all false
set_option maxRecDepth 100000
set_option maxHeartbeats 8000000
/-! k02: texts parted at " and " -/
namespace K02
open PySem L2
def grp : List Str → List Str → List (List Str)
  | cur, [] => [cur]
  | cur, [y] => [cur ++ [y]]
  | cur, y :: z :: r => if y = "and" then cur :: grp [z] r else grp (cur ++ [y]) (z :: r)
abbrev andA : List Nat := [32, 97, 110, 100, 32]
def tailL : List Str → List Nat
  | [] => []
  | y :: r => 32 :: wl (y :: r)
theorem wl_cons (y : Str) (r : List Str) : wl (y :: r) = TL.tl y ++ tailL r := by
  cases r with
  | nil => show TL.tl y = TL.tl y ++ []; rw [List.append_nil]
  | cons z q => rfl
theorem pre_ne {c : Nat} (h : c ≠ 32) (r : List Nat) : TL.pre andA (c :: r) = false := by
  unfold TL.pre
  simp [h]
theorem run_word : ∀ (y : List Nat) (acc t : List Nat), 32 ∉ y → TL.spl andA 0 acc (y ++ t) = TL.spl andA 0 (acc ++ y) t
  | [], acc, t, _ => by rw [List.append_nil]; rfl
  | c :: y, acc, t, h => by
    have hc : c ≠ 32 := fun z => h (z ▸ List.mem_cons_self ..)
    rw [List.cons_append, TL.spl_miss (pre_ne hc _), run_word y _ t fun z => h (List.mem_cons_of_mem _ z)]
    rw [List.append_assoc]
    rfl
theorem pre_and {y : List Nat} (h : 32 ∉ y) (t : List Nat) (ht : t = [] ∨ ∃ q, t = 32 :: q) (hy : y = [97, 110, 100] → t = []) : TL.pre andA (32 :: (y ++ t)) = false := by
  cases e : TL.pre andA (32 :: (y ++ t)) with
  | false => rfl
  | true =>
    exfalso
    have e2 : List.take 4 (y ++ t) = [97, 110, 100, 32] := by
      unfold TL.pre at e
      simpa using e
    rcases ht with rfl | ⟨q, rfl⟩
    · rw [List.append_nil] at e2
      match y, h, e2 with
      | [], h, e2 => simp at e2
      | [a], h, e2 => simp at e2
      | [a, b], h, e2 => simp at e2
      | [a, b, c], h, e2 => simp at e2
      | a :: b :: c :: d :: r, h, e2 =>
        simp at e2
        exact h (by simp [e2])
    · match y, h, e2, hy with
      | [], h, e2, hy => simp at e2
      | [a], h, e2, hy => simp at e2
      | [a, b], h, e2, hy => simp at e2
      | [a, b, c], h, e2, hy =>
        simp at e2
        exact absurd (hy (by simp [e2])) (by simp)
      | a :: b :: c :: d :: r, h, e2, hy =>
        simp at e2
        exact h (by simp [e2])
theorem tl_and : ∀ {y : Str}, TL.tl y = [97, 110, 100] → y = "and" := fun {y} h => TL.ext_tl (h.trans (by decide +kernel))
theorem wl_snoc {cur : List Str} (hc : cur ≠ []) (y : Str) : wl (cur ++ [y]) = wl cur ++ ([32] ++ TL.tl y) := by
  rw [wl_app hc (by simp)]
  rfl
theorem spl_grp : ∀ (rest cur : List Str), cur ≠ [] → (∀ w ∈ rest, 32 ∉ TL.tl w) → TL.spl andA 0 (wl cur) (tailL rest) = (grp cur rest).map wl
  | [], cur, _, _ => by
    show TL.spl andA 0 (wl cur) [] = _
    rw [TL.spl_nil]
    rfl
  | [y], cur, hc, h => by
    have hy := h y (List.mem_singleton.mpr rfl)
    show TL.spl andA 0 (wl cur) (32 :: TL.tl y) = [wl (cur ++ [y])]
    have p : TL.pre andA (32 :: TL.tl y) = false := by
      have := pre_and hy [] (.inl rfl) (fun _ => rfl)
      rwa [List.append_nil] at this
    have r := run_word (TL.tl y) (wl cur ++ [32]) [] hy
    rw [List.append_nil] at r
    rw [TL.spl_miss p, r, TL.spl_nil, wl_snoc hc, List.append_assoc]
  | y :: z :: r, cur, hc, h => by
    have hy := h y (List.mem_cons_self ..)
    have hz := h z (List.mem_cons_of_mem _ (List.mem_cons_self ..))
    have e : tailL (y :: z :: r) = 32 :: (TL.tl y ++ tailL (z :: r)) := by
      show 32 :: wl (y :: z :: r) = _
      rw [wl_cons y]
    unfold grp
    by_cases ha : y = "and"
    · rw [if_pos ha, e, ha]
      have ta : TL.tl ("and" : Str) = [97, 110, 100] := by decide +kernel
      have p : TL.pre andA (32 :: (TL.tl ("and" : Str) ++ tailL (z :: r))) = true := by
        rw [ta]
        unfold TL.pre tailL
        simp
      rw [TL.spl_hit p, TL.spl_pass, ta]
      show wl cur :: TL.spl andA 0 [] (wl (z :: r)) = _
      rw [wl_cons z, run_word _ _ _ hz, List.nil_append]
      have ih := spl_grp r [z] (by simp) fun w hw => h w (List.mem_cons_of_mem _ (List.mem_cons_of_mem _ hw))
      have e1 : wl [z] = TL.tl z := rfl
      rw [e1] at ih
      rw [ih]
      rfl
    · rw [if_neg ha, e]
      have p : TL.pre andA (32 :: (TL.tl y ++ tailL (z :: r))) = false := pre_and hy _ (.inr ⟨_, rfl⟩) fun q => absurd (tl_and q) ha
      rw [TL.spl_miss p, run_word _ _ _ hy]
      have ih := spl_grp (z :: r) (cur ++ [y]) (by simp) fun w hw => h w (List.mem_cons_of_mem _ hw)
      rw [wl_snoc hc] at ih
      rw [← ih, List.append_assoc]
theorem grp_words : ∀ (rest cur : List Str) (ok : Str → Prop), (∀ w ∈ cur, ok w) → (∀ w ∈ rest, ok w) → cur ≠ [] → ∀ p ∈ grp cur rest, p ≠ [] ∧ (∀ w ∈ p, ok w) ∧ p.length ≤ cur.length + rest.length
  | [], cur, ok, hc, hr, ne, p, hp => by
    have := List.mem_singleton.mp hp
    subst this
    exact ⟨ne, hc, Nat.le_refl _⟩
  | [y], cur, ok, hc, hr, ne, p, hp => by
    have := List.mem_singleton.mp hp
    subst this
    exact ⟨by simp, fun w hw => (List.mem_append.mp hw).elim (hc w) (hr w), by simp⟩
  | y :: z :: r, cur, ok, hc, hr, ne, p, hp => by
    unfold grp at hp
    split at hp
    · rcases List.mem_cons.mp hp with e | hp
      · subst e
        exact ⟨ne, hc, by simp⟩
      · obtain ⟨a, b, c⟩ := grp_words r [z] ok (fun w hw => by rw [List.mem_singleton.mp hw]; exact hr z (by simp)) (fun w hw => hr w (by simp [hw])) (by simp) p hp
        refine ⟨a, b, Nat.le_trans c ?_⟩
        simp
        omega
    · obtain ⟨a, b, c⟩ := grp_words (z :: r) (cur ++ [y]) ok (fun w hw => (List.mem_append.mp hw).elim (hc w) fun q => by rw [List.mem_singleton.mp q]; exact hr y (by simp)) (fun w hw => hr w (List.mem_cons_of_mem _ hw)) (by simp) p hp
      refine ⟨a, b, Nat.le_trans c ?_⟩
      simp
      omega
theorem grp_len : ∀ (rest cur : List Str), (grp cur rest).length ≤ 1 + rest.length
  | [], _ => Nat.le_refl _
  | [_], _ => by show 1 ≤ _; omega
  | y :: z :: r, cur => by
    unfold grp
    split
    · have := grp_len r [z]
      rw [List.length_cons, List.length_cons, List.length_cons]
      omega
    · have := grp_len (z :: r) (cur ++ [y])
      rw [List.length_cons] at this ⊢
      rw [List.length_cons]
      omega
theorem grp_mem : ∀ (rest cur : List Str), ∃ p ∈ grp cur rest, ∀ w ∈ cur, w ∈ p
  | [], cur => ⟨cur, List.mem_singleton.mpr rfl, fun w h => h⟩
  | [y], cur => ⟨cur ++ [y], List.mem_singleton.mpr rfl, fun w h => List.mem_append_left _ h⟩
  | y :: z :: r, cur => by
    unfold grp
    split
    · exact ⟨cur, List.mem_cons_self .., fun w h => h⟩
    · obtain ⟨p, hp, h⟩ := grp_mem (z :: r) (cur ++ [y])
      exact ⟨p, hp, fun w hw => h w (List.mem_append_left _ hw)⟩
def pmGo : List Str → List Str → List (List Str)
  | cur, [] => [cur]
  | cur, y :: r => if y = "and" then cur :: pmGo [] r else pmGo (cur ++ [y]) r
theorem partM_go : ∀ (ws : List Str) (done : List (List Str)) (cur : List Str), (ws.foldl partStep (done, cur)).1 ++ [(ws.foldl partStep (done, cur)).2] = done ++ pmGo cur ws
  | [], done, cur => rfl
  | y :: r, done, cur => by
    rw [List.foldl_cons]
    unfold pmGo
    by_cases h : y = "and"
    · have e : partStep (done, cur) y = (done ++ [cur], []) := by unfold partStep; rw [if_pos h]
      rw [e, if_pos h, partM_go r, List.append_assoc]
      rfl
    · have e : partStep (done, cur) y = (done, cur ++ [y]) := by unfold partStep; rw [if_neg h]
      rw [e, if_neg h, partM_go r]
theorem partM_pm (ws : List Str) : partM ws = pmGo [] ws := by
  have h := partM_go ws [] []
  rw [List.nil_append] at h
  exact h
theorem pm_no : ∀ (r cur : List Str), ("and" : Str) ∉ cur → ∀ p ∈ pmGo cur r, ("and" : Str) ∉ p
  | [], cur, h, p, hp => by rw [List.mem_singleton.mp hp]; exact h
  | y :: r, cur, h, p, hp => by
    unfold pmGo at hp
    split at hp
    · rcases List.mem_cons.mp hp with e | hp
      · rw [e]; exact h
      · exact pm_no r [] (by simp) p hp
    · rename_i hy
      refine pm_no r (cur ++ [y]) (fun z => ?_) p hp
      rcases List.mem_append.mp z with z | z
      · exact h z
      · exact hy (List.mem_singleton.mp z).symm
def Clean (p : List Str) : Prop := p ≠ [] ∧ ("and" : Str) ∉ p
/-- where all parts are clean on one side, the sides are alike -/
theorem grp_pm : ∀ (rest cur : List Str), ((∀ p ∈ grp cur rest, Clean p) ∨ ∀ p ∈ pmGo cur rest, Clean p) → grp cur rest = pmGo cur rest
  | [], cur, _ => rfl
  | [y], cur, h => by
    show [cur ++ [y]] = if y = "and" then cur :: pmGo [] [] else pmGo (cur ++ [y]) []
    by_cases ha : y = "and"
    · exfalso
      rcases h with h | h
      · have := (h (cur ++ [y]) (List.mem_singleton.mpr rfl)).2
        exact this (by simp [ha])
      · have : pmGo cur [y] = cur :: pmGo [] [] := by
          show (if y = "and" then cur :: pmGo [] [] else pmGo (cur ++ [y]) []) = _
          rw [if_pos ha]
        rw [this] at h
        exact (h [] (by simp [pmGo])).1 rfl
    · rw [if_neg ha]
      rfl
  | y :: z :: r, cur, h => by
    unfold grp pmGo at h ⊢
    by_cases ha : y = "and"
    · rw [if_pos ha, if_pos ha] at *
      by_cases hz : z = "and"
      · exfalso
        rcases h with h | h
        · obtain ⟨p, hp, hm⟩ := grp_mem r [z]
          exact (h p (List.mem_cons_of_mem _ hp)).2 (hz ▸ hm z (List.mem_singleton.mpr rfl))
        · have e : pmGo [] (z :: r) = [] :: pmGo [] r := by rw [pmGo, if_pos hz]
          rw [e] at h
          exact (h [] (by simp)).1 rfl
      · have e : pmGo [] (z :: r) = pmGo [z] r := by rw [pmGo, if_neg hz]; rfl
        rw [e] at h ⊢
        rw [grp_pm r [z] (h.imp (fun h p hp => h p (List.mem_cons_of_mem _ hp)) fun h p hp => h p (List.mem_cons_of_mem _ hp))]
    · rw [if_neg ha, if_neg ha] at *
      exact grp_pm (z :: r) (cur ++ [y]) h
end K02

set_option Elab.async false
set_option linter.all false
set_option maxRecDepth 100000
set_option maxHeartbeats 8000000
/-! k02: tests, alike -/
namespace K02
open PySem L2
theorem cmps_alike : cmps = cmps3 := rfl
theorem term_some {kd x : Str} (hx : x ∈ allW) : (termV x (namesM kd)).isSome = !badW kd x := by
  obtain ⟨_, _, _, hn⟩ := word_a x hx
  unfold termV badW
  by_cases h : x ∈ namesM kd
  · rw [if_pos h, decide_eq_true ((names_alike kd x).mp h)]
    rfl
  · rw [if_neg h, decide_eq_false (fun z => h ((names_alike kd x).mpr z)), hn, Option.isSome_map]
    by_cases h2 : numL x < 0
    · rw [if_pos h2, decide_eq_true h2]
      rfl
    · rw [if_neg h2, decide_eq_false h2]
      rfl
theorem comp_eq {kd : Str} {l : List Str} (hw : ∀ w ∈ l, w ∈ allW) : (compM l (namesM kd)).isSome = partB kd l := by
  match l, hw with
  | [x, c, y], hw =>
    have hx := term_some (kd := kd) (hw x (by simp))
    have hy := term_some (kd := kd) (hw y (by simp))
    unfold compM partB
    dsimp only
    rw [← cmps_alike, ← hx, ← hy]
    by_cases h : c ∈ cmps ∧ x ≠ y
    · rw [if_pos h, decide_eq_true h.1, decide_eq_false h.2]
      cases termV x (namesM kd) <;> cases termV y (namesM kd) <;> rfl
    · rw [if_neg h]
      by_cases h1 : c ∈ cmps
      · have h2 : x = y := by
          by_cases z : x = y
          · exact z
          · exact absurd ⟨h1, z⟩ h
        rw [decide_eq_true h2]
        simp
      · rw [decide_eq_false h1]
        rfl
  | [], _ => rfl
  | [_], _ => rfl
  | [_, _], _ => rfl
  | _ :: _ :: _ :: _ :: _, _ => rfl
theorem part_eq {kd : Str} {l : List Str} (hw : ∀ w ∈ l, w ∈ allW) : (partD (hPartM kd) l).isSome = partL kd l := by
  unfold partD hPartM partL restL
  rw [Option.isSome_map]
  by_cases h : l.take 1 = [("not" : Str)]
  · rw [if_neg (fun z => z h), if_pos h]
    exact comp_eq fun w hw' => hw w (List.mem_of_mem_drop hw')
  · rw [if_pos h, if_neg h]
    exact comp_eq hw
theorem and_bad : (∀ kd ∈ kindsL, badW kd "and" = true) ∧ ("and" : Str) ∉ cmps3 ∧ ("and" : Str) ≠ "not" := by decide +kernel
theorem part_clean {kd : Str} (hk : kd ∈ kindsL) {l : List Str} (h : partL kd l = true) : Clean l := by
  have core : ∀ r : List Str, partB kd r = true → r ≠ [] ∧ ("and" : Str) ∉ r := by
    intro r hr
    match r, hr with
    | [x, c, y], hr =>
      unfold partB at hr
      simp only [Bool.and_eq_true, Bool.not_eq_true', decide_eq_true_eq, decide_eq_false_iff_not] at hr
      obtain ⟨⟨⟨h1, h2⟩, h3⟩, h4⟩ := hr
      refine ⟨by simp, fun z => ?_⟩
      rcases List.mem_cons.mp z with e | z
      · rw [← e, and_bad.1 kd hk] at h3
        cases h3
      rcases List.mem_cons.mp z with e | z
      · exact and_bad.2.1 (e ▸ h1)
      · rw [← List.mem_singleton.mp z, and_bad.1 kd hk] at h4
        cases h4
    | [], hr => cases hr
    | [_], hr => cases hr
    | [_, _], hr => cases hr
    | _ :: _ :: _ :: _ :: _, hr => cases hr
  unfold partL restL at h
  split at h
  · rename_i ht
    cases l with
    | nil => cases ht
    | cons x r =>
      have ex : x = "not" := by
        have := List.cons.inj ht
        exact this.1
      obtain ⟨a, b⟩ := core r h
      refine ⟨by simp, fun z => ?_⟩
      rcases List.mem_cons.mp z with e | z
      · exact and_bad.2.2 (e.trans ex)
      · exact b z
  · exact core l h
theorem parts_some (pm : List Str → Option PyData) : ∀ (ps : List (List Str)) (acc : List PyData), (partsGo pm ps acc).isSome = ps.all fun p => (partD pm p).isSome
  | [], _ => rfl
  | p :: r, acc => by
    unfold partsGo
    rw [List.all_cons]
    cases e : partD pm p with
    | none => rfl
    | some d => exact parts_some pm r _
theorem kind_and (x : Str) : ¬ PySem.Builtin.Str.strKind x < PySem.Builtin.Str.strKind " and " := by
  have e : PySem.Builtin.Str.strKind " and " = 1 := by decide +kernel
  rw [e]
  unfold PySem.Builtin.Str.strKind
  split <;> (try split) <;> omega
theorem split_words {p : Str} {g : List Str} (h : TL.tl p = wl g) (hg : g ≠ []) (hw : ∀ w ∈ g, w ∈ allW) : Txt.split p " " = g := by
  have e : p = Txt.join " " g := by
    refine TL.ext_tl ?_
    rw [TL.join_eq, TL.tl_join, h]
    rfl
  rw [e]
  exact TL.split_join (y := " ") (s := 32) (S := []) rfl (by decide +kernel) hg fun q hq => (all_free q (hw q hq)).1
theorem tail_tl {ws : List Str} {w0 : Str} {rest : List Str} (h : ws.drop 1 = w0 :: rest) (hw : ∀ w ∈ ws, w ∈ allW) : (tailP ws).map TL.tl = (grp [w0] rest).map wl := by
  have hd : ∀ w ∈ w0 :: rest, w ∈ allW := fun w q => hw w (List.mem_of_mem_drop (h ▸ q))
  unfold tailP
  rw [h, TL.split_spl _ _ (by decide +kernel) (kind_and _), TL.join_eq, TL.tl_join]
  have ta : TL.tl (" and " : Str) = andA := by decide +kernel
  have e : TL.joinL (TL.tl (" " : Str)) ((w0 :: rest).map TL.tl) = TL.tl w0 ++ tailL rest := wl_cons w0 rest
  rw [ta, e, run_word _ _ _ (all_free w0 (hd w0 (by simp))).1, List.nil_append]
  exact spl_grp rest [w0] (by simp) fun w q => (all_free w (hd w (List.mem_cons_of_mem _ q))).1
theorem map_split : ∀ {ps : List Str} {gs : List (List Str)}, ps.map TL.tl = gs.map wl → (∀ g ∈ gs, g ≠ [] ∧ ∀ w ∈ g, w ∈ allW) → ps.map (fun p => Txt.split p " ") = gs ∧ ∀ p ∈ ps, ∃ g ∈ gs, TL.tl p = wl g
  | [], [], _, _ => ⟨rfl, fun p h => by cases h⟩
  | [], _ :: _, h, _ => by cases h
  | _ :: _, [], h, _ => by cases h
  | p :: ps, g :: gs, h, hg => by
    obtain ⟨h1, h2⟩ := List.cons.inj (show TL.tl p :: ps.map TL.tl = wl g :: gs.map wl from h)
    obtain ⟨a, b⟩ := hg g (by simp)
    obtain ⟨i1, i2⟩ := map_split h2 fun q hq => hg q (List.mem_cons_of_mem _ hq)
    refine ⟨?_, fun q hq => ?_⟩
    · rw [List.map_cons, i1, split_words h1 a b]
    · rcases List.mem_cons.mp hq with e | hq
      · rw [e]; exact ⟨g, by simp, h1⟩
      · obtain ⟨g2, m, e⟩ := i2 q hq
        exact ⟨g2, List.mem_cons_of_mem _ m, e⟩
theorem filter_all {α : Type} (f : α → Bool) : ∀ l : List α, decide (l.filter (fun x => !f x) = []) = l.all f
  | [] => rfl
  | x :: l => by
    have ih := filter_all f l
    rw [List.filter_cons, List.all_cons, ← ih]
    cases f x with
    | true => rfl
    | false => exact decide_eq_false (by simp)
theorem if_eq {kd : Str} (hk : kd ∈ kindsL) {ws : List Str} {w0 : Str} {rest : List Str} (h : ws.drop 1 = w0 :: rest) (hw : ∀ w ∈ ws, w ∈ allW) : (testM (hPartM kd) (ws.drop 1)).isSome = ifL kd ws := by
  have hd : ∀ w ∈ w0 :: rest, w ∈ allW := fun w q => hw w (List.mem_of_mem_drop (h ▸ q))
  have hg : ∀ g ∈ grp [w0] rest, g ≠ [] ∧ ∀ w ∈ g, w ∈ allW := fun g q => by
    obtain ⟨a, b, _⟩ := grp_words rest [w0] (· ∈ allW) (fun w z => by rw [List.mem_singleton.mp z]; exact hd w0 (by simp)) (fun w z => hd w (List.mem_cons_of_mem _ z)) (by simp) g q
    exact ⟨a, b⟩
  obtain ⟨e1, _⟩ := map_split (tail_tl h hw) hg
  have e2 : (tailP ws).filter (badP kd) = (tailP ws).filter (fun p => !(partL kd (Txt.split p " "))) := rfl
  unfold ifL
  rw [e2, filter_all (fun p => partL kd (Txt.split p " ")), ← List.length_map (as := tailP ws) (f := fun p => Txt.split p " "), show (tailP ws).all (fun p => partL kd (Txt.split p " ")) = ((tailP ws).map fun p => Txt.split p " ").all (partL kd) from by rw [List.all_map]; rfl, e1, h]
  unfold testM
  rw [partM_pm]
  have gall : ∀ gs : List (List Str), (∀ g ∈ gs, ∀ w ∈ g, w ∈ allW) → (gs.all fun p => (partD (hPartM kd) p).isSome) = gs.all (partL kd) := fun gs q => by
    induction gs with
    | nil => rfl
    | cons g r ih => rw [List.all_cons, List.all_cons, part_eq (q g (by simp)), ih fun x hx => q x (List.mem_cons_of_mem _ hx)]
  have pmw : ∀ (r cur : List Str), (∀ w ∈ cur, w ∈ allW) → (∀ w ∈ r, w ∈ allW) → ∀ p ∈ pmGo cur r, ∀ w ∈ p, w ∈ allW := by
    intro r
    induction r with
    | nil =>
      intro cur hc _ p hp
      rw [List.mem_singleton.mp hp]
      exact hc
    | cons y r ih =>
      intro cur hc hr p hp
      unfold pmGo at hp
      split at hp
      · rcases List.mem_cons.mp hp with e | hp
        · rw [e]; exact hc
        · exact ih [] (by simp) (fun w z => hr w (List.mem_cons_of_mem _ z)) p hp
      · exact ih (cur ++ [y]) (mem_app hc fun w z => by rw [List.mem_singleton.mp z]; exact hr y (by simp)) (fun w z => hr w (List.mem_cons_of_mem _ z)) p hp
  have hpm := gall _ (pmw (w0 :: rest) [] (by simp) hd)
  have key : (decide ((grp [w0] rest).length ≤ 4) && (grp [w0] rest).all (partL kd)) = (decide ((pmGo [] (w0 :: rest)).length ≤ 4) && (pmGo [] (w0 :: rest)).all (partL kd)) := by
    have same : ((∀ p ∈ grp [w0] rest, Clean p) ∨ ∀ p ∈ pmGo [] (w0 :: rest), Clean p) → grp [w0] rest = pmGo [] (w0 :: rest) := by
      intro hcl
      by_cases hz : w0 = "and"
      · exfalso
        rcases hcl with hcl | hcl
        · obtain ⟨p, hp, hm⟩ := grp_mem rest [w0]
          exact (hcl p hp).2 (hz ▸ hm w0 (List.mem_singleton.mpr rfl))
        · have e : pmGo [] (w0 :: rest) = [] :: pmGo [] rest := by rw [pmGo, if_pos hz]
          rw [e] at hcl
          exact (hcl [] (by simp)).1 rfl
      · have e : pmGo [] (w0 :: rest) = pmGo [w0] rest := by rw [pmGo, if_neg hz]; rfl
        rw [e] at hcl ⊢
        exact grp_pm rest [w0] hcl
    by_cases a : (grp [w0] rest).all (partL kd) = true
    · rw [same (.inl fun p hp => part_clean hk (List.all_eq_true.mp a p hp))]
    · by_cases b : (pmGo [] (w0 :: rest)).all (partL kd) = true
      · rw [same (.inr fun p hp => part_clean hk (List.all_eq_true.mp b p hp))]
      · rw [Bool.eq_false_iff.mpr a, Bool.eq_false_iff.mpr b, Bool.and_false, Bool.and_false]
  rw [key]
  by_cases hl : 4 < (pmGo [] (w0 :: rest)).length
  · rw [if_pos hl, decide_eq_false (by omega : ¬ (pmGo [] (w0 :: rest)).length ≤ 4)]
    rfl
  · rw [if_neg hl, decide_eq_true (by omega : (pmGo [] (w0 :: rest)).length ≤ 4), Option.isSome_map, parts_some, hpm, Bool.true_and]
end K02

set_option Elab.async false
set_option linter.all false
set_option maxRecDepth 100000
set_option maxHeartbeats 8000000
/-! k02: lines, alike -/
namespace K02
open PySem L2
theorem Wd.text {x : Str} {n : Nat} (h : Wd x n) : x = Txt.join " " (Txt.split x " ") := by
  refine TL.ext_tl ?_
  rw [TL.join_eq, TL.tl_join, h.split.2.2.2]
  rfl
theorem join1 (w : Str) : Txt.join " " [w] = w := by
  rw [TL.join_eq]
  rfl
theorem Wd.is_one {x w : Str} {n : Nat} (h : Wd x n) (hw : Txt.split w " " = [w]) : Txt.split x " " = [w] ↔ x = w := by
  constructor
  · intro e
    have t := h.text
    rw [e, join1] at t
    exact t
  · intro e
    rw [e, hw]
theorem one5 : Txt.split "quit" " " = [("quit" : Str)] ∧ Txt.split "no" " " = [("no" : Str)] ∧ Txt.split "else" " " = [("else" : Str)] ∧ Txt.split "end" " " = [("end" : Str)] ∧ Txt.split "if" " " = [("if" : Str)] := by decide +kernel
theorem head_drop {ws : List Str} (hne : ws ≠ []) (h0 : ws.getD 0 Str.empty = "if") (h : ws ≠ [("if" : Str)]) : ∃ w0 rest, ws.drop 1 = w0 :: rest := by
  cases ws with
  | nil => exact absurd rfl hne
  | cons a r =>
    have ea : a = "if" := h0
    cases r with
    | nil => exact absurd (by rw [ea]) h
    | cons b q => exact ⟨b, q, rfl⟩
theorem line_eq {kd : Str} (hk : kd ∈ kindsL) {x : Str} {n : Nat} (hx : Wd x n) (nest : List Str) (h1 : x ≠ "end") (h2 : x ≠ "else") (h3 : x ≠ "if") : (readS kd (Txt.split x " ") nest).isSome = lineL kd x := by
  obtain ⟨s1, s2, s3, s4⟩ := hx.split
  obtain ⟨o1, o2, o3, o4, o5⟩ := one5
  unfold readS lineL
  by_cases h0 : (Txt.split x " ").getD 0 Str.empty = "if"
  · rw [if_pos h0, if_pos h0, Option.isSome_map]
    obtain ⟨w0, rest, e⟩ := head_drop s1 h0 fun z => h3 ((hx.is_one o5).mp z)
    exact if_eq hk e s2
  rw [if_neg h0, if_neg h0, if_neg (fun z => h2 ((hx.is_one o3).mp z)), if_neg (fun z => h1 ((hx.is_one o4).mp z)), Option.isSome_map]
  have hq := hx.is_one o1
  have hn := hx.is_one o2
  by_cases q : x = "quit"
  · rw [if_pos (.inl q), decide_eq_true q]
    unfold stepS
    rw [if_pos (hq.mpr q)]
    rfl
  by_cases m : x = "no"
  · rw [if_pos (.inr m), decide_eq_false q, Bool.false_or]
    unfold stepS
    rw [if_neg (fun z => q (hq.mp z))]
    by_cases r : kd = "round"
    · rw [if_pos ⟨hn.mpr m, r⟩, decide_eq_true r]
      rfl
    · rw [if_neg (fun z => r z.2), decide_eq_false r, if_pos (by rw [hn.mpr m]; decide)]
      rfl
  rw [if_neg (fun z => z.elim q m)]
  exact set_eq hk s2 (fun z => q (hq.mp z)) (fun z => m (hn.mp z))
theorem all_num : ∀ w ∈ allW, numL w < 2 ^ 110 := fun w h => (word_a w h).2.2.1
end K02

set_option Elab.async false
set_option linter.all false
set_option maxRecDepth 100000
set_option maxHeartbeats 8000000
/-! k02: what the law's reading asks of a text of words -/
namespace K02
open PySem L2
theorem word_code : ∀ w ∈ allW, (TL.tl w).all (fun c => decide (c < 1114112)) = true := by decide +kernel
theorem wl_code : ∀ {g : List Str}, (∀ w ∈ g, w ∈ allW) → (wl g).all (fun c => decide (c < 1114112)) = true
  | [], _ => rfl
  | [y], h => word_code y (h y (by simp))
  | y :: z :: r, h => by
    rw [wl_cons, List.all_append, word_code y (h y (by simp)), Bool.true_and]
    show (decide (32 < 1114112) && (wl (z :: r)).all _) = true
    rw [wl_code fun w q => h w (List.mem_cons_of_mem _ q)]
    rfl
theorem text_ok {p : Str} {g : List Str} (h : TL.tl p = wl g) (hw : ∀ w ∈ g, w ∈ allW) : PyData.canLay0 (.str p) = true := by
  show PyData.strOk p = true
  unfold PyData.strOk
  have e := wl_code hw
  rw [← h] at e
  rw [← Array.all_toList]
  exact e
theorem parts_ok {ws : List Str} (hw : ∀ w ∈ ws, w ∈ allW) (hl : ws.length ≤ 41) : PartsOk ws := by
  have hd : ∀ w ∈ ws.drop 1, w ∈ allW := fun w h => hw w (List.mem_of_mem_drop h)
  have hdl : (ws.drop 1).length ≤ 41 := by rw [List.length_drop]; omega
  have sl : (" " : Str).length = 1 := by decide +kernel
  have js : ((ws.drop 1).map (·.length)).sum + (ws.drop 1).length * (" " : Str).length ≤ 16777216 := by
    have := word_sum hd
    rw [sl]
    omega
  have jl : (Txt.join " " (ws.drop 1)).length ≤ 5000 := by
    have e : (Txt.join " " (ws.drop 1)).length = (TL.tl (Txt.join " " (ws.drop 1))).length := rfl
    rw [e, TL.join_eq, TL.tl_join]
    exact Nat.le_trans (wl_len _ hd) (by omega)
  cases e : ws.drop 1 with
  | nil =>
    have t : tailP ws = [Str.empty] := by
      unfold tailP
      rw [e]
      decide +kernel
    have t2 : Txt.split Str.empty " " = [Str.empty] := by decide +kernel
    have em : Str.empty ∈ allW := by decide +kernel
    refine ⟨by rw [t]; decide, jl, js, fun p hp => ?_⟩
    rw [t] at hp
    rw [List.mem_singleton.mp hp, t2]
    exact ⟨by decide, all_lay _ em, by decide, fun w hw' => by rw [List.mem_singleton.mp hw']; exact word_ok em⟩
  | cons w0 rest =>
    have hd2 : ∀ w ∈ w0 :: rest, w ∈ allW := e ▸ hd
    have hrl : 1 + rest.length ≤ 41 := by
      rw [e, List.length_cons] at hdl
      omega
    have hg : ∀ g ∈ grp [w0] rest, (g ≠ [] ∧ ∀ w ∈ g, w ∈ allW) ∧ g.length ≤ 41 := fun g q => by
      obtain ⟨a, b, c⟩ := grp_words rest [w0] (· ∈ allW) (fun w z => by rw [List.mem_singleton.mp z]; exact hd2 w0 (by simp)) (fun w z => hd2 w (List.mem_cons_of_mem _ z)) (by simp) g q
      exact ⟨⟨a, b⟩, Nat.le_trans c hrl⟩
    have tt := tail_tl e hw
    obtain ⟨e1, e2⟩ := map_split tt fun g q => (hg g q).1
    have tl : (tailP ws).length = (grp [w0] rest).length := by
      have := congrArg List.length tt
      rw [List.length_map, List.length_map] at this
      exact this
    refine ⟨by rw [tl]; exact Nat.le_trans (grp_len rest [w0]) (by omega), jl, js, fun p hp => ?_⟩
    obtain ⟨g, hgm, ep⟩ := e2 p hp
    obtain ⟨⟨a, b⟩, c⟩ := hg g hgm
    rw [split_words ep a b]
    refine ⟨?_, text_ok ep b, by omega, fun w hw' => word_ok (b w hw')⟩
    have el : p.length = (TL.tl p).length := rfl
    rw [el, ep]
    exact Nat.le_trans (wl_len g b) (by omega)
theorem Wd.lineP {x : Str} {n : Nat} (h : Wd x n) (hn : n ≤ 41) : LineP x := by
  obtain ⟨a, b, c, _⟩ := h.split
  have := h.len
  exact ⟨by omega, a, by omega, fun w hw => ⟨word_ok (b w hw), all_num w (b w hw)⟩, fun _ => parts_ok b (by omega)⟩
end K02

set_option Elab.async false
set_option linter.all false
set_option maxRecDepth 100000
set_option maxHeartbeats 8000000
/-! k02: texts of trees, read -/
namespace K02
open PySem L2
namespace Blk
def All (F T : Str → Prop) : Blk → Prop
  | nil => True
  | leaf s r => F s ∧ All F T r
  | iff t a e b r => T t ∧ All F T a ∧ (e = true → All F T b) ∧ All F T r
def LeafR (kd : Str) (f : Str → St) (s : Str) : Prop := ∀ nest, readS kd (Txt.split s " ") nest = some (f s, nest)
def TestR (kd : Str) (g : Str → PyData) (t : Str) : Prop := ∀ nest, readS kd (Txt.split t " ") nest = some (.iff (g t), nest ++ [("if" : Str)])
theorem split_else : Txt.split "else" " " = [("else" : Str)] := by decide +kernel
theorem split_end : Txt.split "end" " " = [("end" : Str)] := by decide +kernel
theorem read_else (kd : Str) (nest : List Str) : readS kd (Txt.split "else" " ") (nest ++ [("if" : Str)]) = some (.els, nest ++ [("else" : Str)]) := by
  rw [split_else]
  unfold readS
  have h1 : ¬ ([("else" : Str)].getD 0 Str.empty = "if") := by decide +kernel
  have h2 : ¬ ((nest ++ [("if" : Str)]) = [] ∨ (nest ++ [("if" : Str)]).getLast? = some ("else" : Str)) := fun z => by
    rcases z with z | z
    · exact absurd z (by simp)
    · rw [List.getLast?_concat] at z
      exact absurd (Option.some.inj z) (by decide +kernel)
  rw [if_neg h1, if_pos rfl, if_neg h2, List.dropLast_concat]
theorem read_end (kd : Str) (nest : List Str) (x : Str) : readS kd (Txt.split "end" " ") (nest ++ [x]) = some (.nd, nest) := by
  rw [split_end]
  unfold readS
  have h1 : ¬ ([("end" : Str)].getD 0 Str.empty = "if") := by decide +kernel
  have h2 : ¬ ([("end" : Str)] = [("else" : Str)]) := by decide +kernel
  rw [if_neg h1, if_neg h2, if_pos rfl, if_neg (by simp), List.dropLast_concat]
theorem go_cons {kd r : Str} {rs : List Str} {acc : List St} {nest n2 : List Str} {st : St} (h : readS kd (Txt.split r " ") nest = some (st, n2)) : readGo kd (r :: rs) acc nest = readGo kd rs (acc ++ [st]) n2 := by
  show (match readS kd (Txt.split r " ") nest with
    | none => none
    | some (st, n2) => readGo kd rs (acc ++ [st]) n2) = _
  rw [h]
theorem read_blk (kd : Str) (f : Str → St) (g : Str → PyData) : ∀ (b : Blk), b.All (LeafR kd f) (TestR kd g) → ∀ (rest : List Str) (acc : List St) (nest : List Str), readGo kd (b.lines ++ rest) acc nest = readGo kd rest (acc ++ b.steps f g) nest
  | nil, _, rest, acc, nest => by
    show readGo kd rest acc nest = readGo kd rest (acc ++ []) nest
    rw [List.append_nil]
  | leaf s r, ⟨h1, h2⟩, rest, acc, nest => by
    show readGo kd (s :: (r.lines ++ rest)) acc nest = readGo kd rest (acc ++ (f s :: r.steps f g)) nest
    rw [go_cons (h1 nest), read_blk kd f g r h2, List.append_assoc]
    rfl
  | iff t a e b r, ⟨h1, h2, h3, h4⟩, rest, acc, nest => by
    cases e with
    | true =>
      show readGo kd (t :: ((a.lines ++ ((("else" : Str) :: b.lines) ++ ("end" : Str) :: r.lines)) ++ rest)) acc nest = readGo kd rest (acc ++ (.iff (g t) :: (a.steps f g ++ ((St.els :: b.steps f g) ++ St.nd :: r.steps f g)))) nest
      rw [go_cons (h1 nest), List.append_assoc, read_blk kd f g a h2, List.append_assoc, List.cons_append, go_cons (read_else kd nest), read_blk kd f g b (h3 rfl), List.cons_append, go_cons (read_end kd nest _), read_blk kd f g r h4]
      simp [List.append_assoc]
    | false =>
      show readGo kd (t :: ((a.lines ++ (("end" : Str) :: r.lines)) ++ rest)) acc nest = readGo kd rest (acc ++ (.iff (g t) :: (a.steps f g ++ St.nd :: r.steps f g))) nest
      rw [go_cons (h1 nest), List.append_assoc, read_blk kd f g a h2, List.cons_append, go_cons (read_end kd nest _), read_blk kd f g r h4]
      simp [List.append_assoc]
theorem read_all (kd : Str) (f : Str → St) (g : Str → PyData) (b : Blk) (h : b.All (LeafR kd f) (TestR kd g)) : readGo kd b.lines [] [] = some (b.steps f g, []) := by
  have e := read_blk kd f g b h [] [] []
  rw [List.append_nil] at e
  rw [e]
  rfl
/-- ifs are counted -/
theorem countIf (f : Str → St) (g : Str → PyData) : ∀ (b : Blk), Plain f b → (b.steps f g).countP isIf = b.ifs
  | nil, _ => rfl
  | leaf s r, ⟨h1, h2, h3, h4⟩ => by
    have z : isIf (f s) = false := by
      cases e : f s with
      | iff c => exact absurd e (h1 c)
      | _ => rfl
    show (f s :: r.steps f g).countP isIf = r.ifs
    rw [List.countP_cons, countIf f g r h4, z]
    rfl
  | iff t a e b r, ⟨h1, h2, h3⟩ => by
    cases e with
    | true =>
      show (St.iff (g t) :: (a.steps f g ++ ((St.els :: b.steps f g) ++ St.nd :: r.steps f g))).countP isIf = a.ifs + b.ifs + r.ifs + 1
      rw [List.countP_cons, List.countP_append, List.countP_append, List.countP_cons, List.countP_cons, countIf f g a h1, countIf f g b (h2 rfl), countIf f g r h3]
      show a.ifs + (b.ifs + 0 + (r.ifs + 0)) + 1 = _
      omega
    | false =>
      show (St.iff (g t) :: (a.steps f g ++ (St.nd :: r.steps f g))).countP isIf = a.ifs + 0 + r.ifs + 1
      rw [List.countP_cons, List.countP_append, List.countP_cons, countIf f g a h1, countIf f g r h3]
      show a.ifs + (r.ifs + 0) + 1 = _
      omega
end Blk
end K02

set_option Elab.async false
set_option linter.all false
set_option maxRecDepth 100000
set_option maxHeartbeats 8000000
/-! k02: the rows of a turn -/
namespace K02
open PySem L2
def stOf (kd s : Str) : St := ((readS kd (Txt.split s " ") []).map (·.1)).getD .nd
def tsOf (kd s : Str) : PyData := match stOf kd s with
  | .iff c => c
  | _ => .none
/-- read alike whatever is open -/
theorem leaf_read {kd s : Str} (h0 : (Txt.split s " ").getD 0 Str.empty ≠ "if") (h1 : Txt.split s " " ≠ [("else" : Str)]) (h2 : Txt.split s " " ≠ [("end" : Str)]) (h : (readS kd (Txt.split s " ") []).isSome = true) : Blk.LeafR kd (stOf kd) s := by
  intro nest
  unfold stOf
  unfold readS at h ⊢
  rw [if_neg h0, if_neg h1, if_neg h2] at h ⊢
  rw [if_neg h0, if_neg h1, if_neg h2]
  cases e : stepS kd (Txt.split s " ") with
  | none => rw [e] at h; cases h
  | some st => rfl
theorem test_read {kd s : Str} (h0 : (Txt.split s " ").getD 0 Str.empty = "if") (h : (readS kd (Txt.split s " ") []).isSome = true) : Blk.TestR kd (tsOf kd) s := by
  intro nest
  unfold tsOf stOf
  unfold readS at h ⊢
  rw [if_pos h0] at h ⊢
  rw [if_pos h0]
  cases e : testM (hPartM kd) ((Txt.split s " ").drop 1) with
  | none => rw [e] at h; cases h
  | some c => rfl
theorem step_kind {kd : Str} {ws : List Str} {st : St} (h : stepS kd ws = some st) : (∃ x, st = .fin x) ∨ ∃ g sm sg c, st = .set g sm sg c ∧ g ∈ regs ++ [toldM kd] := by
  unfold stepS at h
  split at h
  · exact .inl ⟨_, (Option.some.inj h).symm⟩
  split at h
  · exact .inl ⟨_, (Option.some.inj h).symm⟩
  split at h
  · cases h
  split at h
  · rename_i hc
    unfold stepSetS at h
    split at h
    · exact .inr ⟨_, _, _, _, (Option.some.inj h).symm, hc.2⟩
    · split at h
      · cases h
      · split at h
        · cases h
        · exact .inr ⟨_, _, _, _, (Option.some.inj h).symm, hc.2⟩
  · cases h
theorem leaf_kind {kd s : Str} (h0 : (Txt.split s " ").getD 0 Str.empty ≠ "if") (h1 : Txt.split s " " ≠ [("else" : Str)]) (h2 : Txt.split s " " ≠ [("end" : Str)]) (h : (readS kd (Txt.split s " ") []).isSome = true) :
    (∃ x, stOf kd s = .fin x) ∨ ∃ g sm sg c, stOf kd s = .set g sm sg c ∧ g ∈ regs ++ [toldM kd] := by
  unfold stOf
  unfold readS at h ⊢
  rw [if_neg h0, if_neg h1, if_neg h2] at h ⊢
  cases e : stepS kd (Txt.split s " ") with
  | none => rw [e] at h; cases h
  | some st => exact step_kind e
def headR (k : Nat) : List Str := List.replicate k ("a = 1" : Str)
def rowsT (k : Nat) (x : Str) (o : Bool) : List Str := headR k ++ (x :: ((if o = true then [("end" : Str)] else []) ++ [("b = 2" : Str)]))
def blkB : Blk := .leaf "b = 2" .nil
def blkT (x : Str) : Nat → Bool → Blk
  | 0, true => .iff x .nil false .nil blkB
  | 0, false => .leaf x blkB
  | k + 1, o => .leaf "a = 1" (blkT x k o)
theorem blk_lines (x : Str) : ∀ (k : Nat) (o : Bool), (blkT x k o).lines = rowsT k x o
  | 0, true => rfl
  | 0, false => rfl
  | k + 1, o => by
    show ("a = 1" : Str) :: (blkT x k o).lines = _
    rw [blk_lines x k o]
    rfl
theorem ab_split : Txt.split "a = 1" " " = [("a" : Str), "=", "1"] ∧ Txt.split "b = 2" " " = [("b" : Str), "=", "2"] := by decide +kernel
def markK (st : St) (m : Str) : Bool := match st with
  | .set n _ none _ => decide (n = m)
  | _ => false
theorem ab_ok : ∀ kd ∈ kindsL, (readS kd [("a" : Str), "=", "1"] []).isSome = true ∧ (readS kd [("b" : Str), "=", "2"] []).isSome = true ∧ markK (stOf kd "a = 1") "a" = true ∧ markK (stOf kd "b = 2") "b" = true := by decide +kernel
theorem markK_eq {st : St} {m : Str} (h : markK st m = true) : ∃ sm c, st = .set m sm none c := by
  unfold markK at h
  split at h
  · rw [of_decide_eq_true h]
    exact ⟨_, _, rfl⟩
  · cases h
theorem ab_leaf {kd : Str} (hk : kd ∈ kindsL) : Blk.LeafR kd (stOf kd) "a = 1" ∧ Blk.LeafR kd (stOf kd) "b = 2" ∧ (∃ sm c, stOf kd "a = 1" = .set "a" sm none c) ∧ ∃ sm c, stOf kd "b = 2" = .set "b" sm none c := by
  obtain ⟨a, b, c, d⟩ := ab_ok kd hk
  obtain ⟨e1, e2⟩ := ab_split
  refine ⟨leaf_read ?_ ?_ ?_ ?_, leaf_read ?_ ?_ ?_ ?_, markK_eq c, markK_eq d⟩
  · rw [e1]; decide +kernel
  · rw [e1]; decide +kernel
  · rw [e1]; decide +kernel
  · rw [e1]; exact a
  · rw [e2]; decide +kernel
  · rw [e2]; decide +kernel
  · rw [e2]; decide +kernel
  · rw [e2]; exact b
/-- the row of the text is wrong -/
theorem bad_rows {kd : Str} (hk : kd ∈ kindsL) {x : Str} (h : readS kd (Txt.split x " ") [] = none) (rest : List Str) : ∀ (k i : Nat), badGo kd (headR k ++ (x :: rest)) i [] = some (i + k + 1)
  | 0, i => by
    show (match readS kd (Txt.split x " ") [] with
      | none => some (i + 1)
      | some (_, n2) => badGo kd rest (i + 1) n2) = _
    rw [h]
  | k + 1, i => by
    show (match readS kd (Txt.split ("a = 1" : Str) " ") [] with
      | none => some (i + 1)
      | some (_, n2) => badGo kd (headR k ++ (x :: rest)) (i + 1) n2) = _
    rw [(ab_leaf hk).1 []]
    show badGo kd (headR k ++ (x :: rest)) (i + 1) [] = _
    rw [bad_rows hk h rest k (i + 1)]
    congr 1
    omega
end K02

set_option Elab.async false
set_option linter.all false
set_option maxRecDepth 100000
set_option maxHeartbeats 8000000
/-! k02: the rows of a turn, right -/
namespace K02
open PySem L2
def aMarks (k : Nat) : List (Nat × Str) := (List.range k).map fun i => (i + 1, ("a" : Str))
theorem lim_set : ∀ kd ∈ kindsL, ∀ g ∈ regs ++ [toldM kd], ∀ k ∈ [0, 1, 2], aboveGo limM (aMarks k ++ [(k + 1, g), (k + 2, ("b" : Str))]) [] = none ∧ aboveGo limM (aMarks k ++ [(k + 1, g), (k + 1, ("made" : Str)), (k + 2, ("b" : Str))]) [] = none := by decide +kernel
theorem lim_fin : ∀ k ∈ [0, 1, 2], aboveGo limM (aMarks k) [] = none ∧ aboveGo limM (aMarks k ++ [(k + 3, ("b" : Str))]) [] = none := by decide +kernel
theorem plainS {kd s n : Str} {sm : PyData} {sg : Option Str} {c : Int} {r : Blk} (h : stOf kd s = .set n sm sg c) (hr : r.Plain (stOf kd)) : (Blk.leaf s r).Plain (stOf kd) :=
  ⟨(fun c => by rw [h]; intro z; cases z), (by rw [h]; intro z; cases z), (by rw [h]; intro z; cases z), hr⟩
theorem plainF {kd s x : Str} {r : Blk} (h : stOf kd s = .fin x) (hr : r.Plain (stOf kd)) : (Blk.leaf s r).Plain (stOf kd) :=
  ⟨(fun c => by rw [h]; intro z; cases z), (by rw [h]; intro z; cases z), (by rw [h]; intro z; cases z), hr⟩
theorem good_if {kd : Str} (hk : kd ∈ kindsL) {x : Str} {k : Nat} (hk2 : k ≤ 2) (hx : Blk.TestR kd (tsOf kd) x) : GoodRows kd (rowsT k x true) := by
  obtain ⟨la, lb, ⟨sa, ca, ea⟩, ⟨sb, cb, eb⟩⟩ := ab_leaf hk
  have hall : ∀ k, (blkT x k true).All (Blk.LeafR kd (stOf kd)) (Blk.TestR kd (tsOf kd)) := fun k => by
    induction k with
    | zero => exact ⟨hx, trivial, (fun z => by cases z), lb, trivial⟩
    | succ k ih => exact ⟨la, ih⟩
  have hpl : ∀ k, (blkT x k true).Plain (stOf kd) := fun k => by
    induction k with
    | zero => exact ⟨trivial, (fun z => by cases z), plainS eb trivial⟩
    | succ k ih => exact plainS ea ih
  have hif : ∀ k, (blkT x k true).ifs = 1 := fun k => by
    induction k with
    | zero => rfl
    | succ k ih => exact ih
  have hR := Blk.runEq (stOf kd) (tsOf kd) (blkT x k true) (hpl k)
  rw [← blk_lines]
  refine ⟨_, _, _, Blk.read_all kd (stOf kd) (tsOf kd) _ (hall k), by rw [Blk.countIf _ _ _ (hpl k), hif]; decide, Blk.tg_all _ _ _ (hpl k), hR, ?_, fun w hw => ?_⟩
  · rw [Blk.rAll_zero]
    have h1 := (Blk.ways_len (stOf kd) (blkT x k true) 0 [[]] (Nat.le_refl _)).2
    rw [hif] at h1
    exact Nat.le_trans h1 (by decide)
  · rw [Blk.rAll_zero] at hw
    have hl := (lim_fin k (by
      have : k = 0 ∨ k = 1 ∨ k = 2 := by omega
      rcases this with e | e | e <;> subst e <;> decide)).2
    have h3 : k = 0 ∨ k = 1 ∨ k = 2 := by omega
    rcases h3 with e | e | e
    · subst e
      have : w = [1, 3] := by
        simp [blkT, blkB, Blk.ways, Blk.isFin, ea, eb, Blk.p1, Blk.p2, Blk.size] at hw
        exact hw
      subst this
      unfold faultM wayMarks lineMarks
      simp only [blkT, blkB, Blk.steps, ea, eb, List.flatMap_cons, List.flatMap_nil]
      exact hl
    · subst e
      have : w = [1, 2, 4] := by
        simp [blkT, blkB, Blk.ways, Blk.isFin, ea, eb, Blk.p1, Blk.p2, Blk.size] at hw
        exact hw
      subst this
      unfold faultM wayMarks lineMarks
      simp only [blkT, blkB, Blk.steps, ea, eb, List.flatMap_cons, List.flatMap_nil]
      exact hl
    · subst e
      have : w = [1, 2, 3, 5] := by
        simp [blkT, blkB, Blk.ways, Blk.isFin, ea, eb, Blk.p1, Blk.p2, Blk.size] at hw
        exact hw
      subst this
      unfold faultM wayMarks lineMarks
      simp only [blkT, blkB, Blk.steps, ea, eb, List.flatMap_cons, List.flatMap_nil]
      exact hl
end K02

set_option Elab.async false
set_option linter.all false
set_option maxRecDepth 100000
set_option maxHeartbeats 8000000
/-! k02: the rows of a turn, right, without a test -/
namespace K02
open PySem L2
theorem good_leaf {kd : Str} (hk : kd ∈ kindsL) {x : Str} {k : Nat} (hk2 : k ≤ 2) (hx : Blk.LeafR kd (stOf kd) x) (hs : (∃ y, stOf kd x = .fin y) ∨ ∃ g sm sg c, stOf kd x = .set g sm sg c ∧ g ∈ regs ++ [toldM kd]) : GoodRows kd (rowsT k x false) := by
  obtain ⟨la, lb, ⟨sa, ca, ea⟩, ⟨sb, cb, eb⟩⟩ := ab_leaf hk
  have hall : ∀ k, (blkT x k false).All (Blk.LeafR kd (stOf kd)) (Blk.TestR kd (tsOf kd)) := fun k => by
    induction k with
    | zero => exact ⟨hx, lb, trivial⟩
    | succ k ih => exact ⟨la, ih⟩
  have hpl : ∀ k, (blkT x k false).Plain (stOf kd) := fun k => by
    induction k with
    | zero =>
      rcases hs with ⟨y, e⟩ | ⟨g, sm, sg, c, e, _⟩
      · exact plainF e (plainS eb trivial)
      · exact plainS e (plainS eb trivial)
    | succ k ih => exact plainS ea ih
  have hif : ∀ k, (blkT x k false).ifs = 0 := fun k => by
    induction k with
    | zero => rfl
    | succ k ih => exact ih
  have hR := Blk.runEq (stOf kd) (tsOf kd) (blkT x k false) (hpl k)
  have h3 : k = 0 ∨ k = 1 ∨ k = 2 := by omega
  have km : k ∈ [0, 1, 2] := by rcases h3 with e | e | e <;> subst e <;> decide
  rw [← blk_lines]
  refine ⟨_, _, _, Blk.read_all kd (stOf kd) (tsOf kd) _ (hall k), by rw [Blk.countIf _ _ _ (hpl k), hif]; decide, Blk.tg_all _ _ _ (hpl k), hR, ?_, fun w hw => ?_⟩
  · rw [Blk.rAll_zero]
    have h1 := (Blk.ways_len (stOf kd) (blkT x k false) 0 [[]] (Nat.le_refl _)).2
    rw [hif] at h1
    exact Nat.le_trans h1 (by decide)
  · rw [Blk.rAll_zero] at hw
    rcases hs with ⟨y, ex⟩ | ⟨g, sm, sg, c, ex, hg⟩
    · have hl := (lim_fin k km).1
      rcases h3 with e | e | e
      · subst e
        have : w = [1] := by
          simp [blkT, blkB, Blk.ways, Blk.isFin, ea, eb, ex] at hw
          exact hw
        subst this
        unfold faultM wayMarks lineMarks
        simp only [blkT, blkB, Blk.steps, ea, eb, ex, List.flatMap_cons, List.flatMap_nil]
        exact hl
      · subst e
        have : w = [1, 2] := by
          simp [blkT, blkB, Blk.ways, Blk.isFin, ea, eb, ex] at hw
          exact hw
        subst this
        unfold faultM wayMarks lineMarks
        simp only [blkT, blkB, Blk.steps, ea, eb, ex, List.flatMap_cons, List.flatMap_nil]
        exact hl
      · subst e
        have : w = [1, 2, 3] := by
          simp [blkT, blkB, Blk.ways, Blk.isFin, ea, eb, ex] at hw
          exact hw
        subst this
        unfold faultM wayMarks lineMarks
        simp only [blkT, blkB, Blk.steps, ea, eb, ex, List.flatMap_cons, List.flatMap_nil]
        exact hl
    · have hl := lim_set kd hk g hg k km
      rcases h3 with e | e | e
      · subst e
        have : w = [1, 2] := by
          simp [blkT, blkB, Blk.ways, Blk.isFin, ea, eb, ex] at hw
          exact hw
        subst this
        unfold faultM wayMarks lineMarks
        simp only [blkT, blkB, Blk.steps, ea, eb, ex, List.flatMap_cons, List.flatMap_nil]
        cases sg with
        | none => exact hl.1
        | some z => exact hl.2
      · subst e
        have : w = [1, 2, 3] := by
          simp [blkT, blkB, Blk.ways, Blk.isFin, ea, eb, ex] at hw
          exact hw
        subst this
        unfold faultM wayMarks lineMarks
        simp only [blkT, blkB, Blk.steps, ea, eb, ex, List.flatMap_cons, List.flatMap_nil]
        cases sg with
        | none => exact hl.1
        | some z => exact hl.2
      · subst e
        have : w = [1, 2, 3, 4] := by
          simp [blkT, blkB, Blk.ways, Blk.isFin, ea, eb, ex] at hw
          exact hw
        subst this
        unfold faultM wayMarks lineMarks
        simp only [blkT, blkB, Blk.steps, ea, eb, ex, List.flatMap_cons, List.flatMap_nil]
        cases sg with
        | none => exact hl.1
        | some z => exact hl.2
/-- what a head code tells of the rows of a turn -/
theorem turn_rows {kd : Str} (hk : kd ∈ kindsL) {x : Str} {n k : Nat} (hx : Wd x n) (hk2 : k ≤ 2) {o : Bool} (ho : o = decide ((Txt.split x " ").getD 0 Str.empty = "if")) :
    (badGo kd (rowsT k x o) 0 [] = some (k + 1) ∧ (x = "end" ∨ x = "else" ∨ x = "if" ∨ lineL kd x = false)) ∨ (GoodRows kd (rowsT k x o) ∧ (x = "end" ∨ x = "else" ∨ x = "if" ∨ lineL kd x = true)) := by
  obtain ⟨o1, o2, o3, o4, o5⟩ := one5
  cases h : readS kd (Txt.split x " ") [] with
  | none =>
    refine .inl ⟨?_, ?_⟩
    · have := bad_rows hk h ((if o = true then [("end" : Str)] else []) ++ [("b = 2" : Str)]) k 0
      rw [Nat.zero_add] at this
      exact this
    · by_cases q1 : x = "end"
      · exact .inl q1
      by_cases q2 : x = "else"
      · exact .inr (.inl q2)
      by_cases q3 : x = "if"
      · exact .inr (.inr (.inl q3))
      have e := line_eq hk hx [] q1 q2 q3
      rw [h] at e
      exact .inr (.inr (.inr e.symm))
  | some pr =>
    have hs : (readS kd (Txt.split x " ") []).isSome = true := by rw [h]; rfl
    have n1 : Txt.split x " " ≠ [("else" : Str)] := fun z => by
      rw [z] at h
      have : readS kd [("else" : Str)] [] = none := by
        unfold readS
        rw [if_neg (by decide +kernel), if_pos rfl, if_pos (.inl rfl)]
      rw [this] at h
      cases h
    have n2 : Txt.split x " " ≠ [("end" : Str)] := fun z => by
      rw [z] at h
      have : readS kd [("end" : Str)] [] = none := by
        unfold readS
        rw [if_neg (by decide +kernel), if_neg (by decide +kernel), if_pos rfl, if_pos rfl]
      rw [this] at h
      cases h
    refine .inr ⟨?_, ?_⟩
    · by_cases h0 : (Txt.split x " ").getD 0 Str.empty = "if"
      · rw [ho, decide_eq_true h0]
        exact good_if hk hk2 (test_read h0 hs)
      · rw [ho, decide_eq_false h0]
        exact good_leaf hk hk2 (leaf_read h0 n1 n2 hs) (leaf_kind h0 n1 n2 hs)
    · by_cases q1 : x = "end"
      · exact .inl q1
      by_cases q2 : x = "else"
      · exact .inr (.inl q2)
      by_cases q3 : x = "if"
      · exact .inr (.inr (.inl q3))
      have e := line_eq hk hx [] q1 q2 q3
      rw [hs] at e
      exact .inr (.inr (.inr e.symm))
end K02

set_option Elab.async false
set_option linter.all false
set_option maxRecDepth 100000
set_option maxHeartbeats 8000000
/-! k02: the fixed rows -/
namespace K02
open PySem L2
def tst : Str := "if a < 3"
def rowsF : List (List Str) :=
  [[("end" : Str)], [tst, "else", "else", "end"], [tst], [tst, "a = 1", "end", "else"], [tst, tst, "end"],
   [("a = 1" : Str), ""], [tst, "end", ""], [("a = 1 + 2 + 3 + 4 + 5" : Str)], [("a = 1 + b - 3 + 4" : Str)],
   [Txt.join " and " [tst, "b < 3", "b < 3", "b < 3", "b < 3"], "end"], [Txt.join " and " [tst, "b < 3", "b < 3", "b < 3"], "end"],
   [("a = b << 63" : Str)], [("a = b >> 64" : Str)], [("a = b << 0" : Str)], [("a = b & 18446744073709551615" : Str)],
   [("a = b | 18446744073709551616" : Str)], [("a = 00" : Str)], [("a = b + c + 3 - 5 ^ 6" : Str)],
   [("a = 999999999999999999999999999999" : Str)], [("a = 9999999999999999999999999999999" : Str)]]
def dueF : List Int := [1, 3, 2, 4, 4, 2, 3, 1, 0, 1, 0, 0, 1, 1, 0, 1, 1, 0, 0, 1]
def wokB (w : Str) : Bool := decide (w.length ≤ 1000) && numOkB w && PyData.canLay0 (.str w)
def rowB (r : Str) : Bool := decide (r.length ≤ 1000) && (Txt.split r " ").all wokB && !(Txt.split r " ").isEmpty && decide ((Txt.split r " ").length ≤ 1000)
theorem wok_of {w : Str} (h : wokB w = true) : WOk w := by
  unfold wokB at h
  simp only [Bool.and_eq_true, decide_eq_true_eq] at h
  refine ⟨h.1.1, fun d l => ?_, h.2⟩
  have a := h.1.2
  unfold numOkB at a
  rw [d, decide_eq_true l] at a
  exact Option.isSome_iff_exists.mp a
theorem row_of {r : Str} (h : rowB r = true) : RowOk r := by
  unfold rowB at h
  simp only [Bool.and_eq_true, decide_eq_true_eq, Bool.not_eq_true', List.all_eq_true] at h
  obtain ⟨⟨⟨h1, h2⟩, h3⟩, h4⟩ := h
  exact ⟨Nat.le_trans (by omega : r.length + 2 ≤ 10000) (by decide), fun w hw => wok_of (h2 w hw), (fun z => by rw [z] at h3; cases h3), h4⟩
/-- what is asked of a text of rows -/
def rowsB (rows : List Str) : Bool := decide (rows.length ≤ 20) && rows.all rowB && decide ((rows.map (·.length)).sum + rows.length ≤ 1000) && decide ((Txt.join "\n" rows).length ≤ 1000) && decide (linesM (Txt.join "\n" rows) = rows)
theorem fixed_rows : ∀ rows ∈ rowsF, rowsB rows = true := by decide +kernel
/-- the fixed rows that are wrong -/
def badB (kd : Str) (rows : List Str) (n : Int) : Bool := if n = 0 then true else decide (badGo kd rows 0 [] = some n.toNat)
theorem fixed_bad : ∀ kd ∈ kindsL, (rowsF.zip dueF).all (fun p => badB kd p.1 p.2) = true := by decide +kernel
def goodB (kd : Str) (rows : List Str) : Bool := match rows with
  | [x] => decide ((Txt.split x " ").getD 0 Str.empty ≠ "if") && decide (Txt.split x " " ≠ [("else" : Str)]) && decide (Txt.split x " " ≠ [("end" : Str)]) && (readS kd (Txt.split x " ") []).isSome
  | [x, y] => decide (y = "end") && decide ((Txt.split x " ").getD 0 Str.empty = "if") && (readS kd (Txt.split x " ") []).isSome
  | _ => false
theorem fixed_good : ∀ kd ∈ kindsL, (rowsF.zip dueF).all (fun p => decide (p.2 ≠ 0) || goodB kd p.1) = true := by decide +kernel
theorem lim_one : ∀ kd ∈ kindsL, ∀ g ∈ regs ++ [toldM kd], aboveGo limM [(1, g)] [] = none ∧ aboveGo limM [(1, g), (1, ("made" : Str))] [] = none := by decide +kernel
theorem good_of {kd : Str} (hk : kd ∈ kindsL) {rows : List Str} (h : goodB kd rows = true) : GoodRows kd rows := by
  unfold goodB at h
  split at h
  · rename_i x
    simp only [Bool.and_eq_true, decide_eq_true_eq] at h
    obtain ⟨⟨⟨h0, h1⟩, h2⟩, h3⟩ := h
    have hx := leaf_read h0 h1 h2 h3
    have hs := leaf_kind h0 h1 h2 h3
    have hpl : (Blk.leaf x .nil).Plain (stOf kd) := by
      rcases hs with ⟨y, e⟩ | ⟨g, sm, sg, c, e, _⟩
      · exact plainF e trivial
      · exact plainS e trivial
    have hR := Blk.runEq (stOf kd) (tsOf kd) (.leaf x .nil) hpl
    refine ⟨_, _, _, Blk.read_all kd (stOf kd) (tsOf kd) (.leaf x .nil) ⟨hx, trivial⟩, by rw [Blk.countIf _ _ _ hpl]; exact Nat.zero_le _, Blk.tg_all _ _ _ hpl, hR, ?_, fun w hw => ?_⟩
    · rw [Blk.rAll_zero]
      exact Nat.le_trans (Blk.ways_len (stOf kd) (.leaf x .nil) 0 [[]] (Nat.le_refl _)).2 (by show 2 ^ 0 * 1 ≤ 900; decide)
    · rw [Blk.rAll_zero] at hw
      rcases hs with ⟨y, ex⟩ | ⟨g, sm, sg, c, ex, hg⟩
      · have : w = [1] := by
          simp [Blk.ways, Blk.isFin, ex] at hw
          exact hw
        subst this
        unfold faultM wayMarks lineMarks
        simp only [Blk.steps, ex, List.flatMap_cons, List.flatMap_nil]
        rfl
      · have hl := lim_one kd hk g hg
        have : w = [1] := by
          simp [Blk.ways, Blk.isFin, ex] at hw
          exact hw
        subst this
        unfold faultM wayMarks lineMarks
        simp only [Blk.steps, ex, List.flatMap_cons, List.flatMap_nil]
        cases sg with
        | none => exact hl.1
        | some z => exact hl.2
  · rename_i x y
    simp only [Bool.and_eq_true, decide_eq_true_eq] at h
    obtain ⟨⟨hy, h0⟩, h3⟩ := h
    subst hy
    have hx := test_read h0 h3
    have hpl : (Blk.iff x .nil false .nil .nil).Plain (stOf kd) := ⟨trivial, (fun z => by cases z), trivial⟩
    have hR := Blk.runEq (stOf kd) (tsOf kd) (.iff x .nil false .nil .nil) hpl
    refine ⟨_, _, _, Blk.read_all kd (stOf kd) (tsOf kd) (.iff x .nil false .nil .nil) ⟨hx, trivial, (fun z => by cases z), trivial⟩, by rw [Blk.countIf _ _ _ hpl]; show 1 ≤ 4; decide, Blk.tg_all _ _ _ hpl, hR, ?_, fun w hw => ?_⟩
    · rw [Blk.rAll_zero]
      exact Nat.le_trans (Blk.ways_len (stOf kd) (.iff x .nil false .nil .nil) 0 [[]] (Nat.le_refl _)).2 (by show 2 ^ 1 * 1 ≤ 900; decide)
    · rw [Blk.rAll_zero] at hw
      have : w = [1] := by
        simp [Blk.ways, Blk.p1, Blk.p2, Blk.size] at hw
        exact hw
      subst this
      rfl
  · cases h
end K02

set_option Elab.async false
set_option linter.all false
set_option maxRecDepth 100000
set_option maxHeartbeats 4000000
/-! a text times a number -/
namespace L2
open PySem
def rMulS : R2 := fun x y H Q => ∃ (i : Str) (k : Int), x = .str i ∧ y = .int k ∧ 2 ≤ k ∧ k ≤ 100 ∧ 1 ≤ i.length ∧ i.length ≤ 100 ∧ (PySem.Str.mk ((List.replicate k.toNat i.cps).foldl (· ++ ·) #[])).length ≤ 10000 ∧ Q (.str ⟨(List.replicate k.toNat i.cps).foldl (· ++ ·) #[]⟩) H
theorem op_mulS {X : Cx} : OpR X (binaryOp .Mult) rMulS := by
  intro pins s σ H x y v u Q I rx ry h
  obtain ⟨i, k, rfl, rfl, k0, k1, l0, l1, lz, q⟩ := h
  obtain ⟨t, rfl⟩ := rx
  obtain ⟨t', rfl⟩ := ry
  have e1 : ¬ k < 1 := by omega
  have e2 : (k == 1 || i.length == 0) = false := by
    rw [Bool.or_eq_false_iff]
    exact ⟨by simp; omega, by simp; omega⟩
  refine PySem.P.mul_str ?_ (fun _ _ => ?_) (fun _ _ => ?_) ?_
  · rw [decide_eq_false (by omega : ¬ k < -(2 ^ 63 : Int)), decide_eq_false (by omega : ¬ k ≥ 2 ^ 63)]
    rfl
  · have : (100 : Int) ≤ (2 ^ 63 - 1) / k := (Int.le_ediv_iff_mul_le (by omega)).mpr (by omega)
    omega
  · unfold PySem.Builtin.Str.tooLong
    refine decide_eq_false (Nat.not_lt.mpr ?_)
    have h1 : k.toNat ≤ 100 := by omega
    exact Nat.le_trans (Nat.mul_le_mul l1 h1) (by decide)
  · rw [if_neg e1, e2, if_neg Bool.false_ne_true]
    refine ⟨?_, ?_⟩
    · exact Nat.le_trans lz (by decide)
    · exact ⟨.str _, H, I.tok _, ⟨_, rfl⟩, q⟩
end L2

set_option Elab.async false
set_option linter.all false
set_option maxRecDepth 100000
set_option maxHeartbeats 8000000
/-! k02: the rows of a turn as a text -/
namespace K02
open PySem L2
theorem word_nl : ∀ w ∈ allW, 10 ∉ TL.tl w := by decide +kernel
theorem wl_nl : ∀ {g : List Str}, (∀ w ∈ g, w ∈ allW) → 10 ∉ wl g
  | [], _ => by intro z; cases z
  | [y], h => word_nl y (h y (by simp))
  | y :: z :: r, h => by
    rw [wl_cons]
    intro q
    rcases List.mem_append.mp q with q | q
    · exact word_nl y (h y (by simp)) q
    · rcases List.mem_cons.mp (show 10 ∈ 32 :: wl (z :: r) from q) with q | q
      · cases q
      · exact wl_nl (g := z :: r) (fun w hw => h w (List.mem_cons_of_mem _ hw)) q
theorem len_join (y : Str) : ∀ ls : List Str, (Str.join y ls).length ≤ (ls.map (·.length)).sum + ls.length * y.length
  | [] => Nat.zero_le _
  | [x] => by
    show x.length ≤ (x.length + 0) + 1 * y.length
    omega
  | x :: z :: r => by
    have ih := len_join y (z :: r)
    have e : (Str.join y (x :: z :: r)).length = x.length + y.length + (Str.join y (z :: r)).length := by
      show (x ++ y ++ Str.join y (z :: r)).length = _
      rw [len_app, len_app]
    rw [e, List.map_cons, List.sum_cons, List.length_cons, Nat.succ_mul]
    omega
theorem sum2 {ls : List Str} : (∀ x ∈ ls, x.length ≤ 1700) → (ls.map (·.length)).sum ≤ 1700 * ls.length := by
  induction ls with
  | nil => intro _; exact Nat.zero_le _
  | cons x r ih =>
    intro h
    have h1 := ih fun y hy => h y (List.mem_cons_of_mem x hy)
    have h2 := h x (List.mem_cons_self ..)
    rw [List.map_cons, List.sum_cons, List.length_cons]
    omega
theorem small_rows : ∀ r ∈ [("a = 1" : Str), "b = 2", "end"], rowB r = true ∧ r.length ≤ 10 ∧ 10 ∉ TL.tl r := by decide +kernel
theorem rowsT_each {t : Str} {n k : Nat} {o : Bool} (ht : Wd t n) (hn : n ≤ 41) : ∀ r ∈ rowsT k t o, RowOk r ∧ r.length ≤ 1700 ∧ 10 ∉ TL.tl r := by
  have sm : ∀ r ∈ [("a = 1" : Str), "b = 2", "end"], RowOk r ∧ r.length ≤ 1700 ∧ 10 ∉ TL.tl r := fun r hr => by
    obtain ⟨a, b, c⟩ := small_rows r hr
    exact ⟨row_of a, by omega, c⟩
  intro r hr
  rcases List.mem_append.mp hr with hr | hr
  · rw [List.eq_of_mem_replicate hr]
    exact sm _ (by simp)
  rcases List.mem_cons.mp hr with e | hr
  · rw [e]
    have := ht.len
    refine ⟨ht.row (by omega), by omega, ?_⟩
    obtain ⟨a, b, c, d⟩ := ht.split
    rw [d]
    exact wl_nl b
  rcases List.mem_append.mp hr with hr | hr
  · cases o
    · cases hr
    · rw [List.mem_singleton.mp hr]
      exact sm _ (by simp)
  · rw [List.mem_singleton.mp hr]
    exact sm _ (by simp)
theorem rowsT_len {t : Str} {k : Nat} {o : Bool} (hk : k ≤ 2) : 2 ≤ (rowsT k t o).length ∧ (rowsT k t o).length ≤ 5 := by
  unfold rowsT headR
  rw [List.length_append, List.length_replicate, List.length_cons, List.length_append]
  cases o <;> simp <;> omega
theorem lines_text {rows : List Str} (h : ∀ r ∈ rows, 10 ∉ TL.tl r) (h2 : 2 ≤ rows.length) : linesM (Txt.join "\n" rows) = rows := by
  have ne : rows ≠ [] := by intro z; rw [z] at h2; simp at h2
  have h1 := TL.split_join (y := "\n") (s := 10) (S := []) (by decide +kernel) (by decide +kernel) (parts := rows) ne h
  unfold linesM
  split
  · rename_i z
    rw [z] at h1
    have e : Txt.split Str.empty "\n" = [Str.empty] := by decide +kernel
    rw [e] at h1
    rw [← h1] at h2
    simp at h2
  · exact h1
theorem rowsT_text {t : Str} {n k : Nat} {o : Bool} (ht : Wd t n) (hn : n ≤ 41) (hk : k ≤ 2) :
    (rowsT k t o).length ≤ 20 ∧ (∀ r ∈ rowsT k t o, RowOk r) ∧ ((rowsT k t o).map (·.length)).sum + (rowsT k t o).length * ("\n" : Str).length ≤ 16777216 ∧ (Txt.join "\n" (rowsT k t o)).length + 2 ≤ sizeLine ∧ linesM (Txt.join "\n" (rowsT k t o)) = rowsT k t o := by
  have he := rowsT_each (k := k) (o := o) ht hn
  obtain ⟨l2, l5⟩ := rowsT_len (t := t) (o := o) hk
  have e1 : ("\n" : Str).length = 1 := by decide +kernel
  have s := sum2 fun x hx => (he x hx).2.1
  have j := len_join "\n" (rowsT k t o)
  rw [e1] at j ⊢
  rw [TL.join_eq]
  refine ⟨by omega, fun r hr => (he r hr).1, by omega, Nat.le_trans (show _ ≤ 10000 by omega) (by decide), ?_⟩
  rw [← TL.join_eq]
  exact lines_text (fun r hr => (he r hr).2.2) l2
end K02

set_option Elab.async false
set_option linter.all false
set_option maxRecDepth 100000
set_option maxHeartbeats 8000000
/-! k02: what is told of the fixed rows -/
namespace K02
open PySem L2
abbrev intW (ls : List Int) : List V := ls.map V.int
theorem dpIntW {K : PySem.W.Frag} {H : Hp} : ∀ ls : List Int, DpAll K H (intW ls) (ls.map PyData.int)
  | [] => .nil
  | x :: xs => .cons (.int x) (dpIntW xs)
theorem due_shaped : SeqAt.shaped (.list (dueF.map PyData.int)) = true := by decide +kernel
theorem due_eq : PyData.eqv (.list (dueF.map PyData.int)) (.list (dueF.map PyData.int)) = true := by decide +kernel
theorem zip_at {rows : List Str} {n : Int} : ∀ {l : List (List Str)} {m : List Int} {i : Nat}, l[i]? = some rows → m[i]? = some n → (rows, n) ∈ l.zip m
  | [], _, i, h, _ => by simp at h
  | _ :: _, [], i, _, h => by simp at h
  | x :: l, y :: m, 0, h1, h2 => by
    simp at h1 h2
    subst h1
    subst h2
    exact List.mem_cons_self ..
  | x :: l, y :: m, i + 1, h1, h2 => by
    simp only [List.getElem?_cons_succ] at h1 h2
    exact List.mem_cons_of_mem _ (zip_at h1 h2)
theorem told_end {K : PySem.W.Frag} {kd : Str} (hkd : kd ∈ kindsL) {refs : List Addr} {R DU : Addr} {G2 : Hp} {x0 x1 x3 x4 x5 x6 x7 x8 x9 : Option V} (hDU : G2 DU = some (.lst (intW dueF))) (hR : G2 R = some (.lst (refs.map V.ref))) (hL : ListsAt G2 refs rowsF)
    {Q : VK} (hQ : ∀ G3, Q (.bl true) G3) :
    tOp (rEqD K) (tLc (iList K (tVar 10)) (gName 12) tYes (tCall (spTold K) [] E0 (tCons (tVar 2) (tCons (tVar 12) tNil))) [12]) (tVar 11) [x0, x1, some (.str kd), x3, x4, x5, x6, x7, x8, x9, some (.ref R), some (.ref DU), none] G2 Q := by
  have hlen : refs.length = 20 := Paired.length hL
  refine ⟨_, rfl, R, rfl, ⟨_, SqL.of hR⟩, fun D nD => ?_⟩
  have sD := Same.new (o := .lst []) nD
  refine lc_list (K := K) (a := R) (xs := refs.map V.ref) (fun i G3 => Same G2 G3 ∧ G3 D = some (.lst (intW (dueF.take i)))) ⟨sD, upd_same⟩ (fun i G3 _ ⟨e, _⟩ => SqL.of (e _ _ hR)) ?_ ?_
  · rintro i y G3 hi ⟨s3, gD⟩
    obtain ⟨r, hri, rfl⟩ : ∃ r, refs[i]? = some r ∧ y = V.ref r := by
      rw [List.getElem?_map] at hi
      cases e : refs[i]? with
      | none => rw [e] at hi; cases hi
      | some z => rw [e] at hi; exact ⟨z, rfl, (Option.some.inj hi).symm⟩
    obtain ⟨rows, hrows, gr⟩ := Paired.get hL hri
    have hil : i < 20 := by rw [← hlen]; exact (List.getElem?_eq_some_iff.mp hri).1
    obtain ⟨n, hn⟩ : ∃ n, dueF[i]? = some n := ⟨_, List.getElem?_eq_getElem (show i < dueF.length from hil)⟩
    have hz := zip_at hrows hn
    have hB := fixed_rows rows (List.mem_of_getElem? hrows)
    unfold rowsB at hB
    simp only [Bool.and_eq_true, decide_eq_true_eq, List.all_eq_true] at hB
    obtain ⟨⟨⟨⟨b1, b2⟩, b3⟩, b4⟩, b5⟩ := hB
    have e1 : ("\n" : Str).length = 1 := by decide +kernel
    have nxt : ∀ G4, Same G3 G4 → ∃ acc, G4 D = some (.lst acc) ∧ acc.length < sizeLine ∧ (Same G2 (upd G4 D (.lst (acc ++ [V.int n]))) ∧ (upd G4 D (.lst (acc ++ [V.int n]))) D = some (.lst (intW (dueF.take (i + 1))))) := fun G4 s4 => by
      refine ⟨_, s4 _ _ gD, small1000 (by rw [List.length_map, List.length_take]; omega), Same.write (s3.trans s4) nD, ?_⟩
      rw [take_more hn, upd_same]
      unfold intW
      rw [List.map_append]
      rfl
    refine ⟨rfl, ?_⟩
    unfold tYes
    refine iteT ?_
    refine ⟨_, rfl, _, rfl, r, kd, rows, rfl, SqL.of (s3 _ _ gr), hkd, b1, (fun x hx => row_of (b2 x hx)), by rw [e1]; omega, Nat.le_trans (by omega : _ ≤ 1002) (by decide), b5, ?_⟩
    by_cases h0 : n = 0
    · have hg := List.all_eq_true.mp (fixed_good kd hkd) _ hz
      have hg2 : goodB kd rows = true := by
        rcases Bool.or_eq_true_iff.mp hg with h | h
        · exact absurd h0 (of_decide_eq_true h)
        · exact h
      refine .inr ⟨good_of hkd hg2, fun G4 s4 => ?_⟩
      have := nxt G4 s4
      rw [h0] at this
      exact this
    · have hb := List.all_eq_true.mp (fixed_bad kd hkd) _ hz
      unfold badB at hb
      rw [if_neg h0] at hb
      have hb2 := of_decide_eq_true hb
      have hn0 : ((n.toNat : Nat) : Int) = n := by
        have : ∀ m ∈ dueF, 0 ≤ m := by decide
        exact Int.toNat_of_nonneg (this n (List.mem_of_getElem? hn))
      refine .inl ⟨_, hb2, fun G4 s4 => ?_⟩
      have := nxt G4 s4
      rw [hn0]
      exact this
  · rintro G3 ⟨s3, gD⟩
    rw [List.length_map, hlen] at gD
    have gD2 : G3 D = some (.lst (intW dueF)) := gD
    refine ⟨_, rfl, .list (dueF.map PyData.int), .list (dueF.map PyData.int), .lst (SqL.of gD2) (dpIntW dueF), .lst (SqL.of (s3 _ _ hDU)) (dpIntW dueF), due_shaped, due_shaped, ?_⟩
    rw [due_eq]
    exact hQ _
end K02

set_option Elab.async false
set_option linter.all false
set_option maxRecDepth 100000
set_option maxHeartbeats 8000000
/-! k02: the law -/
namespace K02
open PySem L2
open K02D (TxtB BagAt spBag spDraw)
abbrev nmLaw : List Str := ["_law_script", "_law_bag_here", "_law_kind", "_law_turn", "_law_text", "_law_ahead", "_law_opens", "_law_good", "_law_told_here", "_law_test", "_law_rows", "_law_due", "_law_lines"]
theorem scLaw : FnScope nmLaw ["_law_script"] (defScope sLaw) := ⟨rfl, rfl, rfl, by decide +kernel, rfl, by decide +kernel, by decide +kernel⟩
theorem rep_head : ∀ k : Nat, k ≤ 2 → (List.replicate k [V.str "a = 1"]).flatten = (headR k).map V.str
  | 0, _ => rfl
  | 1, _ => rfl
  | 2, _ => rfl
  | n + 3, h => absurd h (by omega)
theorem paired_app {α β : Type} {F : α → β → Prop} : ∀ {l l2 : List α} {m m2 : List β}, Paired F l m → Paired F l2 m2 → Paired F (l ++ l2) (m ++ m2)
  | _, _, _, _, .nil, h => h
  | _, _, _, _, .cons a r, h => .cons a (paired_app r h)
def spLaw (K : PySem.W.Frag) : Sp := fun vs H Q _ => ∃ (a : Addr) (ns : List Int), vs = [.ref a] ∧ SqL K H a (ns.map V.int) ∧ ns.length ≤ 63 ∧ ∀ H', Q (.bl true) H'
section
variable {P : Program} {w : World} {K : PySem.W.Frag} {mg : Str → Option Value} {base : Heap}
theorem ok_law {f fB fD fK fL fS fI fT : Addr} {fd fdB fdD fdK fdL fdS fdI fdT : FuncData} (F : Fun K "law" "law" sLaw f fd) (T : TxtB mg)
    (GB : FnOk P w K mg base CX0 1 fB fdB ["_law_script"] (spBag K)) (kB : PySem.W.keepIn K (.ref fB) = true) (bB : Binds K fdB ["_law_script"] []) (gB : mg "_law_bag" = some (.ref fB))
    (GD : FnOk P w K mg base CX0 1 fD fdD ["_law_bag_here", "_law_limit"] spDraw) (kD : PySem.W.keepIn K (.ref fD) = true) (bD : Binds K fdD ["_law_bag_here", "_law_limit"] []) (gD : mg "_law_draw" = some (.ref fD))
    (GK : FnOk P w K mg base CX0 1 fK fdK [] spKinds) (kK : PySem.W.keepIn K (.ref fK) = true) (bK : Binds K fdK [] []) (gK : mg "_law_kinds" = some (.ref fK))
    (GL : FnOk P w K mg base CX0 3 fL fdL ["_law_bag_here"] spDLine) (kL : PySem.W.keepIn K (.ref fL) = true) (bL : Binds K fdL ["_law_bag_here"] []) (gL : mg "_law_drawn_line" = some (.ref fL))
    (GS : FnOk P w K mg base CX0 2 fS fdS ["_law_bag_here", "_law_text"] spSpoiled) (kS : PySem.W.keepIn K (.ref fS) = true) (bS : Binds K fdS ["_law_bag_here", "_law_text"] []) (gS : mg "_law_spoiled" = some (.ref fS))
    (GI : FnOk P w K mg base CX0 4 fI fdI ["_law_kind", "_law_text"] spLLine) (kI : PySem.W.keepIn K (.ref fI) = true) (bI : Binds K fdI ["_law_kind", "_law_text"] []) (gI : mg "_law_is_line" = some (.ref fI))
    (GT : FnOk P w K mg base CX0 10 fT fdT ["_law_kind", "_law_lines"] (spTold K)) (kT : PySem.W.keepIn K (.ref fT) = true) (bT : Binds K fdT ["_law_kind", "_law_lines"] []) (gT : mg "_law_told" = some (.ref fT)) :
    FnOk P w K mg base CX0 11 f fd ["_law_script"] (spLaw K) := by
  have sc := scLaw
  refine F.ok scLaw (fun vs H Q E h => ?_) (fun cdv A outer s H vs Q E hr h => ?_)
  · obtain ⟨a, ns, rfl, _⟩ := h
    rfl
  · obtain ⟨a, ns, rfl, hS, hlen, k⟩ := h
    have hr1 : Room 1 _ := hr.mono (by decide)
    have hr2 : Room 2 _ := hr.mono (by decide)
    have hr3 : Room 3 _ := hr.mono (by decide)
    have hr9 : Room 4 _ := hr.mono (by decide)
    have hr10 : Room 10 _ := hr.mono (by decide)
    refine ⟨_, pss_cons (ps_set (i := 1) sc.nd rfl (.inl rfl) (pe_call GB hr1 rfl gB kB bB .nil pass0 (pa_cons (pv 0) pa_nil)))
      (pss_cons (ps_set (i := 2) sc.nd rfl (.inr rfl) (pe_ix ix_list (pe_call0 GK hr1 rfl gK kK bK .nil pass0) (pe_call GD hr1 rfl gD kD bD .nil pass0 (pa_cons (pv 1) (pa_cons pe_int pa_nil))) (fun _ _ => rfl)))
      (pss_cons (ps_for PassesOwn.never rfl (pi_range1 (by rfl) T.range (pa_cons pe_int pa_nil)) (pg_name (i := 3) sc.nd rfl (Or.inl rfl))
      (pss_cons (ps_set (i := 4) sc.nd rfl (.inl rfl) (pe_call GL hr3 rfl gL kL bL .nil pass0 (pa_cons (pv 1) pa_nil)))
      (pss_cons (ps_set (i := 4) sc.nd rfl (.inl rfl) (pe_ifExp (pt_cmpR op_eq (pe_call GD hr1 rfl gD kD bD .nil pass0 (pa_cons (pv 1) (pa_cons pe_int pa_nil))) pe_int (nomark _)) (pe_call GS hr2 rfl gS kS bS .nil pass0 (pa_cons (pv 1) (pa_cons (pv 4) pa_nil))) (pv 4)))
      (pss_cons (ps_set (i := 5) sc.nd rfl (.inl rfl) (pe_op op_rep (pe_lst (pa_cons pe_str pa_nil)) (pe_call GD hr1 rfl gD kD bD .nil pass0 (pa_cons (pv 1) (pa_cons pe_int pa_nil)))))
      (pss_cons (ps_par (i := 6) (j := 7) rfl sc.nd rfl rfl (by decide) rfl rfl (pa_cons (pe_cmpR op_eq (pe_ix ix_list (pe_split (pv 4) pe_str) pe_int (fun _ _ => rfl)) pe_str (nomark _)) (pa_cons (pe_call GI hr9 rfl gI kI bI .nil pass0 (pa_cons (pv 2) (pa_cons (pv 4) pa_nil))) pa_nil)) (by rfl))
      (pss_cons (ps_set (i := 8) sc.nd rfl (.inl rfl) (pe_call GT hr10 rfl gT kT bT .nil pass0 (pa_cons (pv 2) (pa_cons (pe_op op_cat (pe_op op_cat (pe_op op_cat (pv 5) (pe_lst (pa_cons (pv 4) pa_nil))) (pe_op op_rep (pe_lst (pa_cons pe_str pa_nil)) (pe_callTy call_int1 (by rfl) T.int (by decide +kernel) (pa_cons (pv 6) pa_nil)))) (pe_lst (pa_cons pe_str pa_nil))) pa_nil))))
      (pss_one (ps_if (PW.pt (pw_and (pt_cmpR op_notIn_seq (pv 4) (pe_lst (pa_cons pe_str (pa_cons pe_str (pa_cons pe_str pa_nil)))) (by rfl)) (pw_and1 (pt_cmpR op_ne (pv 8) (pe_ifExp (pt_val (pv 7)) pe_int (pe_op op_add (pe_callB call_len_seq (by rfl) T.len PySem.boot_len (pa_cons (pv 5) pa_nil)) pe_int)) (nomark _))))) (pss_one (ps_ret pe_bl)) pss_nil))))))))
      (pss_cons (ps_set (i := 9) sc.nd rfl (.inl rfl) pe_str)
      (pss_cons (ps_set (i := 10) sc.nd rfl (.inl rfl) (pe_lst (pa_cons (pe_lst (pa_cons pe_str pa_nil)) (pa_cons (pe_lst (pa_cons (pv 9) (pa_cons pe_str (pa_cons pe_str (pa_cons pe_str pa_nil))))) (pa_cons (pe_lst (pa_cons (pv 9) pa_nil)) (pa_cons (pe_lst (pa_cons (pv 9) (pa_cons pe_str (pa_cons pe_str (pa_cons pe_str pa_nil))))) (pa_cons (pe_lst (pa_cons (pv 9) (pa_cons (pv 9) (pa_cons pe_str pa_nil)))) pa_nil)))))))
      (pss_cons (ps_set (i := 10) sc.nd rfl (.inl rfl) (pe_op op_cat (pv 10) (pe_lst (pa_cons (pe_lst (pa_cons pe_str (pa_cons pe_str pa_nil))) (pa_cons (pe_lst (pa_cons (pv 9) (pa_cons pe_str (pa_cons pe_str pa_nil)))) (pa_cons (pe_lst (pa_cons pe_str pa_nil)) (pa_cons (pe_lst (pa_cons pe_str pa_nil)) pa_nil)))))))
      (pss_cons (ps_set (i := 10) sc.nd rfl (.inl rfl) (pe_op op_cat (pv 10) (pe_lst (pa_cons (pe_lst (pa_cons (pe_join pe_str (pe_op op_cat (pe_lst (pa_cons (pv 9) pa_nil)) (pe_op op_rep (pe_lst (pa_cons pe_str pa_nil)) pe_int))) (pa_cons pe_str pa_nil))) (pa_cons (pe_lst (pa_cons (pe_join pe_str (pe_op op_cat (pe_lst (pa_cons (pv 9) pa_nil)) (pe_op op_rep (pe_lst (pa_cons pe_str pa_nil)) pe_int))) (pa_cons pe_str pa_nil))) pa_nil)))))
      (pss_cons (ps_set (i := 10) sc.nd rfl (.inl rfl) (pe_op op_cat (pv 10) (pe_lst (pa_cons (pe_lst (pa_cons pe_str pa_nil)) (pa_cons (pe_lst (pa_cons pe_str pa_nil)) (pa_cons (pe_lst (pa_cons pe_str pa_nil)) (pa_cons (pe_lst (pa_cons pe_str pa_nil)) pa_nil)))))))
      (pss_cons (ps_set (i := 10) sc.nd rfl (.inl rfl) (pe_op op_cat (pv 10) (pe_lst (pa_cons (pe_lst (pa_cons pe_str pa_nil)) (pa_cons (pe_lst (pa_cons pe_str pa_nil)) (pa_cons (pe_lst (pa_cons pe_str pa_nil)) pa_nil))))))
      (pss_cons (ps_set (i := 10) sc.nd rfl (.inl rfl) (pe_op op_cat (pv 10) (pe_lst (pa_cons (pe_lst (pa_cons (pe_op op_add_str pe_str (pe_op op_mulS pe_str pe_int)) pa_nil)) (pa_cons (pe_lst (pa_cons (pe_op op_add_str pe_str (pe_op op_mulS pe_str pe_int)) pa_nil)) pa_nil)))))
      (pss_cons (ps_set (i := 11) sc.nd rfl (.inl rfl) (pe_op op_cat (pe_lst (pa_cons pe_int (pa_cons pe_int (pa_cons pe_int (pa_cons pe_int (pa_cons pe_int (pa_cons pe_int (pa_cons pe_int (pa_cons pe_int (pa_cons pe_int (pa_cons pe_int (pa_cons pe_int pa_nil)))))))))))) (pe_lst (pa_cons pe_int (pa_cons pe_int (pa_cons pe_int (pa_cons pe_int (pa_cons pe_int (pa_cons pe_int (pa_cons pe_int (pa_cons pe_int (pa_cons pe_int pa_nil))))))))))))
      (pss_one (ps_ret (pe_cmpR (op_eqD hr.units) (pe_lc (own := [("_law_lines", 12)]) (g := gName 12) (te := tCall (spTold K) [] E0 (tCons (tVar 2) (tCons (tVar 12) tNil))) (tt := tYes) rfl sc.nd (by exact pi_list (pv 10)) (blkOk_by (own := [("_law_lines", 12)]) (N := nmLaw) (sc := defScope sLaw) (by decide +kernel)) (fun _ _ _ _ _ => pg_name (i := 12) sc.nd rfl (Or.inl rfl)) (fun _ _ _ _ _ => pts_nil) (fun _ _ _ _ _ => by exact (pe_call GT hr10 rfl gT kT bT .nil pass0 (pa_cons (pv 2) (pa_cons (pv 12) pa_nil))))) (pv 11) (nomark _)))))))))))))), ?_⟩
    refine ⟨_, rfl, a, ns, rfl, hS, hlen, fun b c H1 s1 B1 => ?_⟩
    refine ⟨rfl, fun K0 H2 s2 gK0 => ?_⟩
    have B2 := B1.keep s2
    obtain ⟨ob, eb⟩ := bag_some B2
    have K0b : K0 ≠ b := bag_ne B2 gK0
    refine ⟨_, rfl, pick_at (E := E0) B2 (by omega) gK0 K0b rfl (by decide) (by decide) fun kd hkd H3 B3 e3 => ?_⟩
    refine ⟨8, rfl, by decide, by decide, for_range (lo := 0) (n := 8) (fun i σ G => ∃ (k3 k4 k5 k6 k7 k8 : Option V), σ = [some (.ref a), some (.ref b), some (.str kd), k3, k4, k5, k6, k7, k8, none, none, none, none] ∧ BagAt c G b (1 + 60 * i))
      ⟨none, none, none, none, none, none, rfl, B3⟩ ?_ ?_⟩
    · rintro i σ G hi ⟨k3, k4, k5, k6, k7, k8, rfl, B⟩
      refine ⟨_, rfl, b, c, 1 + 60 * i, rfl, B, by omega, fun t0 wt0 G1 B1 e1 => ?_⟩
      have pick : ∀ {Q2 : VK}, (∀ t G2, Wd t 41 → BagAt c G2 b (1 + 60 * i + 44) → Q2 (.str t) G2) →
          tIf (tTest (tOp rEq (tCall spDraw [] E0 (tCons (tVar 1) (tCons (tC (V.int 2)) tNil))) (tC (V.int 0)))) (tCall spSpoiled [] E0 (tCons (tVar 1) (tCons (tVar 4) tNil))) (tVar 4) [some (.ref a), some (.ref b), some (.str kd), some (.int (0 + (i : Int))), some (.str t0), k5, k6, k7, k8, none, none, none, none] G1 Q2 := by
        intro Q2 hQ
        refine ⟨_, rfl, b, c, 2, _, rfl, B1, by omega, by decide, by decide, fun r1 G2 r10 r11 B2' e2' => ⟨rfl, _, rfl, ?_⟩⟩
        by_cases hz : V.int r1 = V.int 0
        · refine iteT' (decide_eq_true hz) ?_
          refine ⟨_, rfl, _, rfl, b, c, _, t0, rfl, B2', by omega, wt0, fun t1 wt1 G3 B3' e3' => ?_⟩
          exact hQ t1 G3 wt1 (bag_up B3' (by omega))
        · refine iteF' (decide_eq_false hz) ?_
          exact ⟨_, rfl, hQ t0 G2 (wt0.mono (by decide)) (bag_up B2' (by omega))⟩
      refine pick fun t G2 wt B2' => ?_
      refine ⟨(by show 1 ≤ sizeLine; decide), fun l1 nl1 => ?_⟩
      have u1 := Same.new (o := .lst [V.str "a = 1"]) nl1
      have B3' := B2'.keep u1
      refine ⟨_, rfl, b, c, 3, _, rfl, B3', by omega, by decide, by decide, fun r2 G3 r20 r21 B4 e4 => ?_⟩
      obtain ⟨k, rfl⟩ : ∃ n : Nat, r2 = (n : Int) := ⟨r2.toNat, by omega⟩
      have hk2 : k ≤ 2 := by omega
      have gl1 : G3 l1 = some (.lst [V.str "a = 1"]) := e4 _ _ upd_same (bag_ne B3' upd_same)
      refine ⟨l1, (k : Int), [V.str "a = 1"], rfl, rfl, gl1, by omega, by omega, (by rw [Int.toNat_natCast]; exact Nat.le_trans (by show 1 * k ≤ 10; omega) (by decide)), fun A nA => ?_⟩
      rw [Int.toNat_natCast, rep_head k hk2]
      have u4 := Same.new (o := .lst ((headR k).map V.str)) nA
      have tl := wt.len
      obtain ⟨q1, q2, q3, q4⟩ := wt.split
      refine ⟨_, rfl, ⟨_, rfl⟩, t, " ", rfl, rfl, rfl, Nat.le_trans (by omega : t.length + 2 ≤ 2000) (by decide), fun W nW => ?_⟩
      have u5 := u4.trans (Same.new (o := .lst ((Txt.split t " ").map V.str)) nW)
      refine ⟨W, _, 0, _, rfl, rfl, SqL.of upd_same, at_pos (ws := Txt.split t " ") (i := 0) (List.length_pos_iff.mpr q1), rfl, ?_⟩
      have B5 := B4.keep u5
      refine ⟨_, rfl, _, rfl, kd, t, rfl, hkd, wt.lineP (by decide), fun G4 s4 => ?_⟩
      have B6 := B5.keep s4
      have u6 := u5.trans s4
      have gA : G4 A = some (.lst ((headR k).map V.str)) := s4 _ _ (Same.new nW _ _ upd_same)
      obtain ⟨o, ho⟩ : ∃ o : Bool, o = decide (V.str ((Txt.split t " ").getD 0 Str.empty) = V.str "if") := ⟨_, rfl⟩
      have ho2 : o = decide ((Txt.split t " ").getD 0 Str.empty = "if") := by
        rw [ho]
        by_cases z : (Txt.split t " ").getD 0 Str.empty = "if"
        · rw [decide_eq_true z, decide_eq_true (congrArg V.str z)]
        · rw [decide_eq_false z, decide_eq_false (fun y => z (V.str.inj y))]
      rw [← ho]
      obtain ⟨e, he, he2, he3⟩ : ∃ e : Nat, (if o = true then (1 : Int) else 0) = (e : Int) ∧ e ≤ 1 ∧ (List.replicate e [V.str "end"]).flatten = (if o = true then [("end" : Str)] else []).map V.str := by
        cases o
        · exact ⟨0, rfl, by decide, rfl⟩
        · exact ⟨1, rfl, by decide, rfl⟩
      refine ⟨_, _, rfl, ?_⟩
      refine ⟨_, rfl, _, rfl, _, rfl, (by show 1 ≤ sizeLine; decide), fun m1 nm1 => ?_⟩
      have w1 := Same.new (o := .lst [V.str t]) nm1
      have hkl : ((headR k).map V.str).length = k := by rw [List.length_map]; exact List.length_replicate
      refine ⟨A, m1, _, [V.str t], rfl, rfl, w1 _ _ gA, upd_same, (by rw [hkl]; exact Nat.le_trans (by show k + 1 ≤ 10; omega) (by decide)), fun m2 nm2 => ?_⟩
      have w2n := Same.new (o := .lst ((headR k).map V.str ++ [V.str t])) nm2
      refine ⟨(by show 1 ≤ sizeLine; decide), fun m3 nm3 => ?_⟩
      have w3n := Same.new (o := .lst [V.str "end"]) nm3
      refine ⟨_, rfl, .inr ⟨_, rfl, ?_⟩⟩
      rw [he]
      refine ⟨m3, (e : Int), [V.str "end"], rfl, rfl, upd_same, by omega, by omega, (by rw [Int.toNat_natCast]; exact Nat.le_trans (by show 1 * e ≤ 10; omega) (by decide)), fun m4 nm4 => ?_⟩
      rw [Int.toNat_natCast, he3]
      have w4n := Same.new (o := .lst ((if o = true then [("end" : Str)] else []).map V.str)) nm4
      refine ⟨m2, m4, _, _, rfl, rfl, (w3n.trans w4n) _ _ upd_same, upd_same, ?_, fun m5 nm5 => ?_⟩
      · rw [List.length_append, hkl]
        refine Nat.le_trans (?_ : _ ≤ 10) (by decide)
        cases o <;> simp <;> omega
      have w5n := Same.new (o := .lst ((headR k).map V.str ++ [V.str t] ++ (if o = true then [("end" : Str)] else []).map V.str)) nm5
      refine ⟨(by show 1 ≤ sizeLine; decide), fun m6 nm6 => ?_⟩
      have w6n := Same.new (o := .lst [V.str "b = 2"]) nm6
      refine ⟨m5, m6, _, _, rfl, rfl, w6n _ _ upd_same, upd_same, ?_, fun m7 nm7 => ?_⟩
      · rw [List.length_append, List.length_append, hkl]
        refine Nat.le_trans (?_ : _ ≤ 10) (by decide)
        cases o <;> simp <;> omega
      have er : ((headR k).map V.str ++ [V.str t] ++ (if o = true then [("end" : Str)] else []).map V.str) ++ [V.str "b = 2"] = (rowsT k t o).map V.str := by
        unfold rowsT
        simp [List.map_append, List.append_assoc]
      rw [er]
      have w7n := Same.new (o := .lst ((rowsT k t o).map V.str)) nm7
      have wAll := w1.trans (w2n.trans (w3n.trans (w4n.trans (w5n.trans (w6n.trans w7n)))))
      obtain ⟨x1, x2, x3, x4, x5⟩ := rowsT_text (o := o) wt (by decide) hk2
      have gAll := wAll _ _ gA
      have B7 := B6.keep wAll
      have fin : ∀ {D : Ends} {n7 : Int} {G5 : Hp}, G5 A = some (.lst ((headR k).map V.str)) → BagAt c G5 b (1 + 60 * i + 44 + 1) → (t ∉ [("end" : Str), "else", "if"] → n7 = (if lineL kd t = true then 0 else (k : Int) + 1)) →
          (∀ G6, BagAt c G6 b (1 + 60 * (i + 1)) → D.nx [some (.ref a), some (.ref b), some (.str kd), some (.int (0 + (i : Int))), some (.str t), some (.ref A), some (.bl o), some (.bl (lineL kd t)), some (.int n7), none, none, none, none] G6) →
          tIfS (tAnd (tTest (tOp (rIn K true) (tVar 4) (tLst (tCons (tC (.str "end")) (tCons (tC (.str "else")) (tCons (tC (.str "if")) tNil)))))) (tTest (tOp rNe (tVar 8) (tIf (tB (tVar 7)) (tC (.int 0)) (tOp (rI0 fun i j => V.int (i + j)) (tCB (fun xs H_1 Q => ∃ p ys, xs = [V.ref p] ∧ (SqL K H_1 p ys ∨ SqT K H_1 p ys) ∧ Q (V.int (ys.length : Int)) H_1) (tCons (tVar 5) tNil)) (tC (.int 1))))))) (tRet (tC (.bl false))) tNext D [some (.ref a), some (.ref b), some (.str kd), some (.int (0 + (i : Int))), some (.str t), some (.ref A), some (.bl o), some (.bl (lineL kd t)), some (.int n7), none, none, none, none] G5 := by
        intro D n7 G5 hA hB hn hD
        refine ⟨_, rfl, (by show 3 ≤ sizeLine; decide), fun z0 nz0 => ?_⟩
        have sz := Same.new (o := .lst ([("end" : Str), "else", "if"].map V.str)) nz0
        refine ⟨z0, [("end" : Str), "else", "if"].map V.str, rfl, .inl (SqL.of upd_same), rfl, rfl, _, rfl, ?_⟩
        by_cases hs : t ∈ [("end" : Str), "else", "if"]
        · refine iteF' (by show (!inV _ _) = false; rw [inV_str, decide_eq_true hs]; rfl) ?_
          refine iteF ?_
          exact hD _ (bag_up (hB.keep sz) (by omega))
        · refine iteT' (by show (!inV _ _) = true; rw [inV_str, decide_eq_false hs]; rfl) ?_
          have e7 := hn hs
          refine ⟨_, rfl, _, rfl, _, rfl, ?_⟩
          cases hl : lineL kd t with
          | true =>
            rw [hl, if_pos rfl] at e7
            refine iteT ?_
            refine ⟨rfl, _, rfl, ?_⟩
            refine iteF' (by rw [e7, decide_eq_true rfl]; rfl) ?_
            rw [hl] at hD
            exact hD _ (bag_up (hB.keep sz) (by omega))
          | false =>
            rw [hl, if_neg Bool.false_ne_true] at e7
            refine iteF ?_
            refine ⟨_, rfl, A, _, rfl, .inl (SqL.of (sz _ _ hA)), _, _, rfl, rfl, rfl, _, rfl, ?_⟩
            refine iteF' (by rw [hkl, e7, decide_eq_true rfl]; rfl) ?_
            rw [hl] at hD
            exact hD _ (bag_up (hB.keep sz) (by omega))
      have spec : t ∉ [("end" : Str), "else", "if"] → ¬ (t = "end") ∧ ¬ (t = "else") ∧ ¬ (t = "if") := fun z => ⟨fun y => z (by simp [y]), fun y => z (by simp [y]), fun y => z (by simp [y])⟩
      refine ⟨m7, kd, rowsT k t o, rfl, SqL.of upd_same, hkd, x1, x2, x3, x4, x5, ?_⟩
      have tr := turn_rows hkd wt hk2 ho2
      rcases tr with ⟨hb, hl⟩ | ⟨hg, hl⟩
      · refine .inl ⟨k + 1, hb, fun G5 s5 => ?_⟩
        refine fin (s5 _ _ gAll) (B7.keep s5) (fun z => ?_) fun G6 B8 => ⟨_, _, _, _, _, _, rfl, B8⟩
        obtain ⟨y1, y2, y3⟩ := spec z
        have e : lineL kd t = false := by
          rcases hl with q | q | q | q
          · exact absurd q y1
          · exact absurd q y2
          · exact absurd q y3
          · exact q
        rw [e, if_neg Bool.false_ne_true]
        rfl
      · refine .inr ⟨hg, fun G5 s5 => ?_⟩
        refine fin (s5 _ _ gAll) (B7.keep s5) (fun z => ?_) fun G6 B8 => ⟨_, _, _, _, _, _, rfl, B8⟩
        obtain ⟨y1, y2, y3⟩ := spec z
        have e : lineL kd t = true := by
          rcases hl with q | q | q | q
          · exact absurd q y1
          · exact absurd q y2
          · exact absurd q y3
          · exact q
        rw [e, if_pos rfl]
    · rintro σ G ⟨k3, k4, k5, k6, k7, k8, rfl, B⟩
      refine ⟨(by show 1 ≤ sizeLine; decide), fun r0 n0 => ?_⟩
      have s0 := Same.new (o := .lst ([("end" : Str)].map V.str)) n0
      refine ⟨_, rfl, (by show 4 ≤ sizeLine; decide), fun r1 n1 => ?_⟩
      have s1 := Same.new (o := .lst ([tst, "else", "else", "end"].map V.str)) n1
      refine ⟨_, rfl, (by show 1 ≤ sizeLine; decide), fun r2 n2 => ?_⟩
      have s2 := Same.new (o := .lst ([tst].map V.str)) n2
      refine ⟨_, rfl, (by show 4 ≤ sizeLine; decide), fun r3 n3 => ?_⟩
      have s3 := Same.new (o := .lst ([tst, "a = 1", "end", "else"].map V.str)) n3
      refine ⟨_, rfl, _, rfl, (by show 3 ≤ sizeLine; decide), fun r4 n4 => ?_⟩
      have s4 := Same.new (o := .lst ([tst, tst, "end"].map V.str)) n4
      refine ⟨(by show 5 ≤ sizeLine; decide), fun R1 nR1 => ?_⟩
      have sR1 := Same.new (o := .lst ([r0, r1, r2, r3, r4].map V.ref)) nR1
      have L1 : ListsAt _ [r0, r1, r2, r3, r4] [[("end" : Str)], [tst, "else", "else", "end"], [tst], [tst, "a = 1", "end", "else"], [tst, tst, "end"]] :=
        .cons ((s1.trans (s2.trans (s3.trans (s4.trans sR1)))) _ _ upd_same) (.cons ((s2.trans (s3.trans (s4.trans sR1))) _ _ upd_same) (.cons ((s3.trans (s4.trans sR1)) _ _ upd_same) (.cons ((s4.trans sR1) _ _ upd_same) (.cons (sR1 _ _ upd_same) .nil))))
      refine ⟨_, rfl, (by show 2 ≤ sizeLine; decide), fun r5 n5 => ?_⟩
      have s5 := Same.new (o := .lst ([("a = 1" : Str), ""].map V.str)) n5
      refine ⟨_, rfl, (by show 3 ≤ sizeLine; decide), fun r6 n6 => ?_⟩
      have s6 := Same.new (o := .lst ([tst, "end", ""].map V.str)) n6
      refine ⟨(by show 1 ≤ sizeLine; decide), fun r7 n7 => ?_⟩
      have s7 := Same.new (o := .lst ([("a = 1 + 2 + 3 + 4 + 5" : Str)].map V.str)) n7
      refine ⟨(by show 1 ≤ sizeLine; decide), fun r8 n8 => ?_⟩
      have s8 := Same.new (o := .lst ([("a = 1 + b - 3 + 4" : Str)].map V.str)) n8
      refine ⟨(by show 4 ≤ sizeLine; decide), fun g2 ng2 => ?_⟩
      have sg2 := Same.new (o := .lst ([r5, r6, r7, r8].map V.ref)) ng2
      refine ⟨R1, g2, _, _, rfl, rfl, ((s5.trans (s6.trans (s7.trans (s8.trans sg2)))) _ _ upd_same), upd_same, (by show 9 ≤ sizeLine; decide), fun R2 nR2 => ?_⟩
      have sR2 := Same.new (o := .lst ([r0, r1, r2, r3, r4, r5, r6, r7, r8].map V.ref)) nR2
      have L2 : ListsAt _ [r0, r1, r2, r3, r4, r5, r6, r7, r8] (rowsF.take 9) := paired_app (ListsAt.keep (s5.trans (s6.trans (s7.trans (s8.trans (sg2.trans sR2))))) L1) (show ListsAt _ [r5, r6, r7, r8] ((rowsF.drop 5).take 4) from .cons ((s6.trans (s7.trans (s8.trans (sg2.trans sR2)))) _ _ upd_same) (.cons ((s7.trans (s8.trans (sg2.trans sR2))) _ _ upd_same) (.cons ((s8.trans (sg2.trans sR2)) _ _ upd_same) (.cons ((sg2.trans sR2) _ _ upd_same) (.nil)))))
      refine ⟨_, rfl, ⟨_, rfl⟩, _, rfl, (by show 1 ≤ sizeLine; decide), fun a1 na1 => ?_⟩
      have sa1 := Same.new (o := .lst ([tst].map V.str)) na1
      refine ⟨(by show 1 ≤ sizeLine; decide), fun b1 nb1 => ?_⟩
      have sb1 := Same.new (o := .lst [V.str "b < 3"]) nb1
      refine ⟨b1, (4 : Int), [V.str "b < 3"], rfl, rfl, upd_same, by decide, by decide, (by show 4 ≤ sizeLine; decide), fun c1 nc1 => ?_⟩
      have sc1 := Same.new (o := .lst ([("b < 3" : Str), ("b < 3" : Str), ("b < 3" : Str), ("b < 3" : Str)].map V.str)) nc1
      refine ⟨a1, c1, _, _, rfl, rfl, ((sb1.trans sc1) _ _ upd_same), upd_same, (by show 5 ≤ sizeLine; decide), fun d1 nd1 => ?_⟩
      have sd1 := Same.new (o := .lst ([tst, "b < 3", "b < 3", "b < 3", "b < 3"].map V.str)) nd1
      refine ⟨_, d1, [tst, "b < 3", "b < 3", "b < 3", "b < 3"], rfl, rfl, .inl (SqL.of upd_same), (by decide +kernel), ?_⟩
      refine ⟨(by show 2 ≤ sizeLine; decide), fun r9 n9 => ?_⟩
      have s9 := Same.new (o := .lst ([Txt.join " and " [tst, "b < 3", "b < 3", "b < 3", "b < 3"], "end"].map V.str)) n9
      refine ⟨⟨_, rfl⟩, _, rfl, (by show 1 ≤ sizeLine; decide), fun a2 na2 => ?_⟩
      have sa2 := Same.new (o := .lst ([tst].map V.str)) na2
      refine ⟨(by show 1 ≤ sizeLine; decide), fun b2 nb2 => ?_⟩
      have sb2 := Same.new (o := .lst [V.str "b < 3"]) nb2
      refine ⟨b2, (3 : Int), [V.str "b < 3"], rfl, rfl, upd_same, by decide, by decide, (by show 3 ≤ sizeLine; decide), fun c2 nc2 => ?_⟩
      have sc2 := Same.new (o := .lst ([("b < 3" : Str), ("b < 3" : Str), ("b < 3" : Str)].map V.str)) nc2
      refine ⟨a2, c2, _, _, rfl, rfl, ((sb2.trans sc2) _ _ upd_same), upd_same, (by show 4 ≤ sizeLine; decide), fun d2 nd2 => ?_⟩
      have sd2 := Same.new (o := .lst ([tst, "b < 3", "b < 3", "b < 3"].map V.str)) nd2
      refine ⟨_, d2, [tst, "b < 3", "b < 3", "b < 3"], rfl, rfl, .inl (SqL.of upd_same), (by decide +kernel), ?_⟩
      refine ⟨(by show 2 ≤ sizeLine; decide), fun r10 n10 => ?_⟩
      have s10 := Same.new (o := .lst ([Txt.join " and " [tst, "b < 3", "b < 3", "b < 3"], "end"].map V.str)) n10
      refine ⟨(by show 2 ≤ sizeLine; decide), fun g3 ng3 => ?_⟩
      have sg3 := Same.new (o := .lst ([r9, r10].map V.ref)) ng3
      refine ⟨R2, g3, _, _, rfl, rfl, ((sa1.trans (sb1.trans (sc1.trans (sd1.trans (s9.trans (sa2.trans (sb2.trans (sc2.trans (sd2.trans (s10.trans sg3)))))))))) _ _ upd_same), upd_same, (by show 11 ≤ sizeLine; decide), fun R3 nR3 => ?_⟩
      have sR3 := Same.new (o := .lst ([r0, r1, r2, r3, r4, r5, r6, r7, r8, r9, r10].map V.ref)) nR3
      have L3 : ListsAt _ [r0, r1, r2, r3, r4, r5, r6, r7, r8, r9, r10] (rowsF.take 11) := paired_app (ListsAt.keep (sa1.trans (sb1.trans (sc1.trans (sd1.trans (s9.trans (sa2.trans (sb2.trans (sc2.trans (sd2.trans (s10.trans (sg3.trans sR3))))))))))) L2) (show ListsAt _ [r9, r10] ((rowsF.drop 9).take 2) from .cons ((sa2.trans (sb2.trans (sc2.trans (sd2.trans (s10.trans (sg3.trans sR3)))))) _ _ upd_same) (.cons ((sg3.trans sR3) _ _ upd_same) (.nil)))
      refine ⟨_, rfl, (by show 1 ≤ sizeLine; decide), fun r11 n11 => ?_⟩
      have s11 := Same.new (o := .lst ([("a = b << 63" : Str)].map V.str)) n11
      refine ⟨(by show 1 ≤ sizeLine; decide), fun r12 n12 => ?_⟩
      have s12 := Same.new (o := .lst ([("a = b >> 64" : Str)].map V.str)) n12
      refine ⟨(by show 1 ≤ sizeLine; decide), fun r13 n13 => ?_⟩
      have s13 := Same.new (o := .lst ([("a = b << 0" : Str)].map V.str)) n13
      refine ⟨(by show 1 ≤ sizeLine; decide), fun r14 n14 => ?_⟩
      have s14 := Same.new (o := .lst ([("a = b & 18446744073709551615" : Str)].map V.str)) n14
      refine ⟨(by show 4 ≤ sizeLine; decide), fun g4 ng4 => ?_⟩
      have sg4 := Same.new (o := .lst ([r11, r12, r13, r14].map V.ref)) ng4
      refine ⟨R3, g4, _, _, rfl, rfl, ((s11.trans (s12.trans (s13.trans (s14.trans sg4)))) _ _ upd_same), upd_same, (by show 15 ≤ sizeLine; decide), fun R4 nR4 => ?_⟩
      have sR4 := Same.new (o := .lst ([r0, r1, r2, r3, r4, r5, r6, r7, r8, r9, r10, r11, r12, r13, r14].map V.ref)) nR4
      have L4 : ListsAt _ [r0, r1, r2, r3, r4, r5, r6, r7, r8, r9, r10, r11, r12, r13, r14] (rowsF.take 15) := paired_app (ListsAt.keep (s11.trans (s12.trans (s13.trans (s14.trans (sg4.trans sR4))))) L3) (show ListsAt _ [r11, r12, r13, r14] ((rowsF.drop 11).take 4) from .cons ((s12.trans (s13.trans (s14.trans (sg4.trans sR4)))) _ _ upd_same) (.cons ((s13.trans (s14.trans (sg4.trans sR4))) _ _ upd_same) (.cons ((s14.trans (sg4.trans sR4)) _ _ upd_same) (.cons ((sg4.trans sR4) _ _ upd_same) (.nil)))))
      refine ⟨_, rfl, (by show 1 ≤ sizeLine; decide), fun r15 n15 => ?_⟩
      have s15 := Same.new (o := .lst ([("a = b | 18446744073709551616" : Str)].map V.str)) n15
      refine ⟨(by show 1 ≤ sizeLine; decide), fun r16 n16 => ?_⟩
      have s16 := Same.new (o := .lst ([("a = 00" : Str)].map V.str)) n16
      refine ⟨(by show 1 ≤ sizeLine; decide), fun r17 n17 => ?_⟩
      have s17 := Same.new (o := .lst ([("a = b + c + 3 - 5 ^ 6" : Str)].map V.str)) n17
      refine ⟨(by show 3 ≤ sizeLine; decide), fun g5 ng5 => ?_⟩
      have sg5 := Same.new (o := .lst ([r15, r16, r17].map V.ref)) ng5
      refine ⟨R4, g5, _, _, rfl, rfl, ((s15.trans (s16.trans (s17.trans sg5))) _ _ upd_same), upd_same, (by show 18 ≤ sizeLine; decide), fun R5 nR5 => ?_⟩
      have sR5 := Same.new (o := .lst ([r0, r1, r2, r3, r4, r5, r6, r7, r8, r9, r10, r11, r12, r13, r14, r15, r16, r17].map V.ref)) nR5
      have L5 : ListsAt _ [r0, r1, r2, r3, r4, r5, r6, r7, r8, r9, r10, r11, r12, r13, r14, r15, r16, r17] (rowsF.take 18) := paired_app (ListsAt.keep (s15.trans (s16.trans (s17.trans (sg5.trans sR5)))) L4) (show ListsAt _ [r15, r16, r17] ((rowsF.drop 15).take 3) from .cons ((s16.trans (s17.trans (sg5.trans sR5))) _ _ upd_same) (.cons ((s17.trans (sg5.trans sR5)) _ _ upd_same) (.cons ((sg5.trans sR5) _ _ upd_same) (.nil))))
      refine ⟨_, rfl, "9", (30 : Int), rfl, rfl, by decide, by decide, by decide, by decide, (by decide +kernel), _, _, rfl, rfl, (by decide +kernel), ?_⟩
      rw [show (("a = " : Str) ++ (PySem.Str.mk ((List.replicate (30 : Int).toNat ("9" : Str).cps).foldl (· ++ ·) #[]))) = ("a = 999999999999999999999999999999" : Str) from by decide +kernel]
      refine ⟨(by show 1 ≤ sizeLine; decide), fun r18 n18 => ?_⟩
      have s18 := Same.new (o := .lst ([("a = 999999999999999999999999999999" : Str)].map V.str)) n18
      refine ⟨"9", (31 : Int), rfl, rfl, by decide, by decide, by decide, by decide, (by decide +kernel), _, _, rfl, rfl, (by decide +kernel), ?_⟩
      rw [show (("a = " : Str) ++ (PySem.Str.mk ((List.replicate (31 : Int).toNat ("9" : Str).cps).foldl (· ++ ·) #[]))) = ("a = 9999999999999999999999999999999" : Str) from by decide +kernel]
      refine ⟨(by show 1 ≤ sizeLine; decide), fun r19 n19 => ?_⟩
      have s19 := Same.new (o := .lst ([("a = 9999999999999999999999999999999" : Str)].map V.str)) n19
      refine ⟨(by show 2 ≤ sizeLine; decide), fun g6 ng6 => ?_⟩
      have sg6 := Same.new (o := .lst ([r18, r19].map V.ref)) ng6
      refine ⟨R5, g6, _, _, rfl, rfl, ((s18.trans (s19.trans sg6)) _ _ upd_same), upd_same, (by show 20 ≤ sizeLine; decide), fun R6 nR6 => ?_⟩
      have sR6 := Same.new (o := .lst ([r0, r1, r2, r3, r4, r5, r6, r7, r8, r9, r10, r11, r12, r13, r14, r15, r16, r17, r18, r19].map V.ref)) nR6
      have L6 : ListsAt _ [r0, r1, r2, r3, r4, r5, r6, r7, r8, r9, r10, r11, r12, r13, r14, r15, r16, r17, r18, r19] (rowsF.take 20) := paired_app (ListsAt.keep (s18.trans (s19.trans (sg6.trans sR6))) L5) (show ListsAt _ [r18, r19] ((rowsF.drop 18).take 2) from .cons ((s19.trans (sg6.trans sR6)) _ _ upd_same) (.cons ((sg6.trans sR6) _ _ upd_same) (.nil)))
      refine ⟨(by show 11 ≤ sizeLine; decide), fun e1 ne1 => ?_⟩
      have se1 := Same.new (o := .lst (([1, 3, 2, 4, 4, 2, 3, 1, 0, 1, 0] : List Int).map V.int)) ne1
      refine ⟨(by show 9 ≤ sizeLine; decide), fun e2 ne2 => ?_⟩
      have se2 := Same.new (o := .lst (([0, 1, 1, 0, 1, 1, 0, 0, 1] : List Int).map V.int)) ne2
      refine ⟨e1, e2, _, _, rfl, rfl, se2 _ _ upd_same, upd_same, (by show 20 ≤ sizeLine; decide), fun DU nDU => ?_⟩
      have sDU := Same.new (o := .lst (dueF.map V.int)) nDU
      have L7 : ListsAt _ _ rowsF := ListsAt.keep (se1.trans (se2.trans sDU)) L6
      have gR6 := (se1.trans (se2.trans sDU)) R6 _ upd_same
      exact told_end (K := K) hkd (R := R6) (DU := DU) upd_same gR6 L7 (fun G3 => k G3)

end
end K02

set_option Elab.async false
set_option linter.all false
set_option maxRecDepth 100000
namespace K02
open PySem L2
theorem outl_binds {K : PySem.W.Frag} {f : Addr} {fd : FuncData} (F : FunD K "read_outline" "read_outline" (defArgs sOutl) (defBody sOutl) (defScope sOutl) [.non] [] f fd) : ∃ ds, Vals [V.non] ds ∧ Binds K fd ["text", "kind", "step_in", "part_in", "most_lines", "most_ifs", "loop_in"] ds :=
  F.binds1 6 0 (by intro z; cases z) rfl (fun T kV doc pm an cdv ct us its hu hi => match us, its, hu, hi with | [_, _, _, _, _, _], [_], _, _ => ⟨_, rfl, rfl⟩)
theorem outl_fund {K : PySem.W.Frag} {f dT : Addr} {oc : Value} {od an : Option Addr} {osl : Array (Option Value)} {kV doc pm cdv ct : Value} {oT : Obj} {n : Nat} (l : K.lookup f = some ⟨oc, od, .func (PySem.W.fnOf "read_outline" "read_outline" (defArgs sOutl) (defBody sOutl) (defScope sOutl) (.ref dT) kV doc pm an cdv ct), osl⟩)
    (lT : K.lookup dT = some oT) (hT : oT.data = .seq #[.none] n) (c : PySem.W.codeIn K cdv "read_outline" = true) (k : PySem.W.keepIn K (.ref f) = true) :
    FunD K "read_outline" "read_outline" (defArgs sOutl) (defBody sOutl) (defScope sOutl) [.non] [] f (PySem.W.fnOf "read_outline" "read_outline" (defArgs sOutl) (defBody sOutl) (defScope sOutl) (.ref dT) kV doc pm an cdv ct) :=
  ⟨⟨oc, od, .ref dT, kV, doc, pm, an, cdv, ct, osl, rfl, l, c, .inr ⟨(by intro z; cases z), dT, oT, [.none], n, rfl, lT, hT, .cons rfl .nil⟩, .inl rfl⟩, k⟩
end K02

set_option Elab.async false
set_option linter.all false
set_option maxRecDepth 100000
set_option maxHeartbeats 8000000
/-! The facts of the text, the end -/
namespace K02
open PySem L2
open K02D (TxtB ok_bag ok_draw)
theorem eb_ref : ErrA.ErrBody PP sRefI "line" [] where
  ex := ⟨_, _, _, _, _, _, _, _, _, _, _, _, _, ⟨fun _ _ _ _ _ => ⟨_, rfl⟩, rfl, rfl, by decide +kernel, rfl, rfl, rfl, by decide +kernel, by decide +kernel, ⟨_, rfl, rfl⟩, by decide +kernel⟩, ErrA.Sets.nil, rfl⟩
  nd := by decide +kernel
  bind := fun _ _ _ _ _ _ _ _ us hl => match us, hl with | [_, _], _ => rfl
  few := by decide
theorem eb_bad : ErrA.ErrBody PP sBadI "line" [] where
  ex := ⟨_, _, _, _, _, _, _, _, _, _, _, _, _, ⟨fun _ _ _ _ _ => ⟨_, rfl⟩, rfl, rfl, by decide +kernel, rfl, rfl, rfl, by decide +kernel, by decide +kernel, ⟨_, rfl, rfl⟩, by decide +kernel⟩, ErrA.Sets.nil, rfl⟩
  nd := by decide +kernel
  bind := fun _ _ _ _ _ _ _ _ us hl => match us, hl with | [_, _], _ => rfl
  few := by decide
/-- the texts of a constant tuple -/
def strsAt : List Value → Option (List Str)
  | [] => some []
  | .str x _ :: r => (strsAt r).map (x :: ·)
  | _ => none
theorem vals_strs : ∀ {its : List Value} {xs : List Str}, strsAt its = some xs → Vals (xs.map V.str) its
  | [], _, h => by
    cases h
    exact .nil
  | u :: r, xs, h => by
    cases u with
    | str x t =>
      have h' : (strsAt r).map (x :: ·) = some xs := h
      cases e : strsAt r with
      | none => rw [e] at h'; cases h'
      | some ys =>
        rw [e] at h'
        cases h'
        exact .cons ⟨t, rfl⟩ (vals_strs e)
    | _ => cases h
theorem tup_K {K : PySem.W.Frag} {c : Addr} {d : Option Addr} {its : Array Value} {n : Nat} {sl : Array (Option Value)} {xs : List Str} (l : K.lookup c = some ⟨.type "tuple", d, .seq its n, sl⟩) (v : strsAt its.toList = some xs) (hx : xs.length ≤ 1000) : ∀ H : Hp, SqT K H c (xs.map V.str) := fun H => by
  have e := vals_strs v
  have z := e.length
  rw [List.length_map] at z
  have q : its.toList.length = its.size := Array.length_toList
  have hz : its.size ≤ 1000 := by omega
  exact .inr ⟨_, its, n, l, rfl, rfl, Nat.le_trans hz (by decide), e⟩
theorem nine {Q : Str → Prop} (h0 : Q "make") (h1 : Q "size") (h2 : Q "used") (h3 : Q "ahead") (h4 : Q "use") (h5 : Q "free") (h6 : Q "meet") (h7 : Q "part") (h8 : Q "round") : ∀ k ∈ kindsL, Q k := fun k hk => by
  unfold kindsL at hk
  rcases List.mem_cons.mp hk with e | hk
  · rw [e]; exact h0
  rcases List.mem_cons.mp hk with e | hk
  · rw [e]; exact h1
  rcases List.mem_cons.mp hk with e | hk
  · rw [e]; exact h2
  rcases List.mem_cons.mp hk with e | hk
  · rw [e]; exact h3
  rcases List.mem_cons.mp hk with e | hk
  · rw [e]; exact h4
  rcases List.mem_cons.mp hk with e | hk
  · rw [e]; exact h5
  rcases List.mem_cons.mp hk with e | hk
  · rw [e]; exact h6
  rcases List.mem_cons.mp hk with e | hk
  · rw [e]; exact h7
  rcases List.mem_cons.mp hk with e | hk
  · rw [e]; exact h8
  · cases hk
section
variable {w : World} {K : PySem.W.Frag} {mg : Str → Option Value} {h : Heap}
theorem all_mk {fa dT25 CO CH CR CB fI cc cda fIz ccz cdaz cHA cTO f11 f12 f13 f14 f15 f16 f17 f18 f19 f23 f24 f25 f26 f27 f28 f42 f43 f44 f45 f46 f47 f50 f51 f52 f53 f54 f55 f56 f57 f58 f59 f60 f61 f62 f63 f64 fm0 fm1 fm2 fm3 fm4 cqC cqE cqK cqG cqS cqM tH0 tH1 tH2 tH3 tH4 tH5 tH6 tH7 tH8 : Addr} {dqC : Option Addr} {itsqC : Array Value} {nqC : Nat} {slqC : Array (Option Value)} {dqE : Option Addr} {itsqE : Array Value} {nqE : Nat} {slqE : Array (Option Value)} {dqK : Option Addr} {itsqK : Array Value} {nqK : Nat} {slqK : Array (Option Value)} {dqG : Option Addr} {itsqG : Array Value} {nqG : Nat} {slqG : Array (Option Value)} {dqS : Option Addr} {itsqS : Array Value} {nqS : Nat} {slqS : Array (Option Value)} {dqM : Option Addr} {itsqM : Array Value} {nqM : Nat} {slqM : Array (Option Value)} {dw0 : Option Addr} {itsw0 : Array Value} {nw0 : Nat} {slw0 : Array (Option Value)} {dw1 : Option Addr} {itsw1 : Array Value} {nw1 : Nat} {slw1 : Array (Option Value)} {dw2 : Option Addr} {itsw2 : Array Value} {nw2 : Nat} {slw2 : Array (Option Value)} {dw3 : Option Addr} {itsw3 : Array Value} {nw3 : Nat} {slw3 : Array (Option Value)} {dw4 : Option Addr} {itsw4 : Array Value} {nw4 : Nat} {slw4 : Array (Option Value)} {dw5 : Option Addr} {itsw5 : Array Value} {nw5 : Nat} {slw5 : Array (Option Value)} {dw6 : Option Addr} {itsw6 : Array Value} {nw6 : Nat} {slw6 : Array (Option Value)} {dw7 : Option Addr} {itsw7 : Array Value} {nw7 : Nat} {slw7 : Array (Option Value)} {dw8 : Option Addr} {itsw8 : Array Value} {nw8 : Nat} {slw8 : Array (Option Value)} {tiF tiT tiP tiS tiR tiL tiI tiX tiY tT0 tT1 tT2 tT3 tT4 tT5 tT6 tT7 tT8 : Tok} {esH esT : Array DictEntry} {nH nT : Nat} {ddT : Option Addr} {itD : Array Value} {nD : Nat} {slD : Array (Option Value)} {nm qq : Str} {N : Addr} {bs bm : List Value} {sn : List Str} {sub : List Value} {ab : Bool} {col : Option Bool} {dd : Option Addr} {k0 k1 k2 k3 k5 : Option Value} {cl : Value} {cld : Option Addr} {csl : Array (Option Value)} {ccl : Value} {cdd : Option Addr} {vs : Array Value} {ccs : Array (Option Value)} {file : Str} {tf : Tok} {ocE : Value} {odE : Option Addr} {kVE docE pmE : Value} {anE : Option Addr} {ctE : Value} {oslE : Array (Option Value)} {nmz qqz : Str} {Nz : Addr} {bsz bmz : List Value} {snz : List Str} {subz : List Value} {abz : Bool} {colz : Option Bool} {ddz : Option Addr} {k0z k1z k2z k3z k5z : Option Value} {clz : Value} {cldz : Option Addr} {cslz : Array (Option Value)} {cclz : Value} {cddz : Option Addr} {vsz : Array Value} {ccsz : Array (Option Value)} {filez : Str} {tfz : Tok} {ocEz : Value} {odEz : Option Addr} {kVEz docEz pmEz : Value} {anEz : Option Addr} {ctEz : Value} {oslEz : Array (Option Value)} {oc11 kV11 dc11 pm11 cd11 ct11 : Value} {od11 an11 : Option Addr} {sl11 : Array (Option Value)} {oc12 kV12 dc12 pm12 cd12 ct12 : Value} {od12 an12 : Option Addr} {sl12 : Array (Option Value)} {oc13 kV13 dc13 pm13 cd13 ct13 : Value} {od13 an13 : Option Addr} {sl13 : Array (Option Value)} {oc14 kV14 dc14 pm14 cd14 ct14 : Value} {od14 an14 : Option Addr} {sl14 : Array (Option Value)} {oc15 kV15 dc15 pm15 cd15 ct15 : Value} {od15 an15 : Option Addr} {sl15 : Array (Option Value)} {oc16 kV16 dc16 pm16 cd16 ct16 : Value} {od16 an16 : Option Addr} {sl16 : Array (Option Value)} {oc17 kV17 dc17 pm17 cd17 ct17 : Value} {od17 an17 : Option Addr} {sl17 : Array (Option Value)} {oc18 kV18 dc18 pm18 cd18 ct18 : Value} {od18 an18 : Option Addr} {sl18 : Array (Option Value)} {oc19 kV19 dc19 pm19 cd19 ct19 : Value} {od19 an19 : Option Addr} {sl19 : Array (Option Value)} {oc23 kV23 dc23 pm23 cd23 ct23 : Value} {od23 an23 : Option Addr} {sl23 : Array (Option Value)} {oc24 kV24 dc24 pm24 cd24 ct24 : Value} {od24 an24 : Option Addr} {sl24 : Array (Option Value)} {oc25 kV25 dc25 pm25 cd25 ct25 : Value} {od25 an25 : Option Addr} {sl25 : Array (Option Value)} {oc26 kV26 dc26 pm26 cd26 ct26 : Value} {od26 an26 : Option Addr} {sl26 : Array (Option Value)} {oc27 kV27 dc27 pm27 cd27 ct27 : Value} {od27 an27 : Option Addr} {sl27 : Array (Option Value)} {oc28 kV28 dc28 pm28 cd28 ct28 : Value} {od28 an28 : Option Addr} {sl28 : Array (Option Value)} {oc42 kV42 dc42 pm42 cd42 ct42 : Value} {od42 an42 : Option Addr} {sl42 : Array (Option Value)} {oc43 kV43 dc43 pm43 cd43 ct43 : Value} {od43 an43 : Option Addr} {sl43 : Array (Option Value)} {oc44 kV44 dc44 pm44 cd44 ct44 : Value} {od44 an44 : Option Addr} {sl44 : Array (Option Value)} {oc45 kV45 dc45 pm45 cd45 ct45 : Value} {od45 an45 : Option Addr} {sl45 : Array (Option Value)} {oc46 kV46 dc46 pm46 cd46 ct46 : Value} {od46 an46 : Option Addr} {sl46 : Array (Option Value)} {oc47 kV47 dc47 pm47 cd47 ct47 : Value} {od47 an47 : Option Addr} {sl47 : Array (Option Value)} {oc50 kV50 dc50 pm50 cd50 ct50 : Value} {od50 an50 : Option Addr} {sl50 : Array (Option Value)} {oc51 kV51 dc51 pm51 cd51 ct51 : Value} {od51 an51 : Option Addr} {sl51 : Array (Option Value)} {oc52 kV52 dc52 pm52 cd52 ct52 : Value} {od52 an52 : Option Addr} {sl52 : Array (Option Value)} {oc53 kV53 dc53 pm53 cd53 ct53 : Value} {od53 an53 : Option Addr} {sl53 : Array (Option Value)} {oc54 kV54 dc54 pm54 cd54 ct54 : Value} {od54 an54 : Option Addr} {sl54 : Array (Option Value)} {oc55 kV55 dc55 pm55 cd55 ct55 : Value} {od55 an55 : Option Addr} {sl55 : Array (Option Value)} {oc56 kV56 dc56 pm56 cd56 ct56 : Value} {od56 an56 : Option Addr} {sl56 : Array (Option Value)} {oc57 kV57 dc57 pm57 cd57 ct57 : Value} {od57 an57 : Option Addr} {sl57 : Array (Option Value)} {oc58 kV58 dc58 pm58 cd58 ct58 : Value} {od58 an58 : Option Addr} {sl58 : Array (Option Value)} {oc59 kV59 dc59 pm59 cd59 ct59 : Value} {od59 an59 : Option Addr} {sl59 : Array (Option Value)} {oc60 kV60 dc60 pm60 cd60 ct60 : Value} {od60 an60 : Option Addr} {sl60 : Array (Option Value)} {oc61 kV61 dc61 pm61 cd61 ct61 : Value} {od61 an61 : Option Addr} {sl61 : Array (Option Value)} {oc62 kV62 dc62 pm62 cd62 ct62 : Value} {od62 an62 : Option Addr} {sl62 : Array (Option Value)} {oc63 kV63 dc63 pm63 cd63 ct63 : Value} {od63 an63 : Option Addr} {sl63 : Array (Option Value)} {oc64 kV64 dc64 pm64 cd64 ct64 : Value} {od64 an64 : Option Addr} {sl64 : Array (Option Value)} {ocm0 kVm0 dcm0 pmm0 cdm0 ctm0 : Value} {odm0 anm0 : Option Addr} {slm0 : Array (Option Value)} {ocm1 kVm1 dcm1 pmm1 cdm1 ctm1 : Value} {odm1 anm1 : Option Addr} {slm1 : Array (Option Value)} {ocm2 kVm2 dcm2 pmm2 cdm2 ctm2 : Value} {odm2 anm2 : Option Addr} {slm2 : Array (Option Value)} {ocm3 kVm3 dcm3 pmm3 cdm3 ctm3 : Value} {odm3 anm3 : Option Addr} {slm3 : Array (Option Value)} {ocm4 kVm4 dcm4 pmm4 cdm4 ctm4 : Value} {odm4 anm4 : Option Addr} {slm4 : Array (Option Value)} (X : K.In h) (G : h.Ns mainGlobals mg) (hfa : mg "law" = some (.ref fa))
    (a11 : PySem.W.nsIn K mainGlobals "is_among" = some (some (.ref f11))) (l11 : K.lookup f11 = some ⟨oc11, od11, .func (PySem.W.fnOf "is_among" "is_among" (defArgs (top 11)) (defBody (top 11)) (defScope (top 11)) .none kV11 dc11 pm11 an11 cd11 ct11), sl11⟩) (c11 : PySem.W.codeIn K cd11 "is_among" = true) (k11 : PySem.W.keepIn K (.ref f11) = true)
    (a12 : PySem.W.nsIn K mainGlobals "lines_of" = some (some (.ref f12))) (l12 : K.lookup f12 = some ⟨oc12, od12, .func (PySem.W.fnOf "lines_of" "lines_of" (defArgs (top 12)) (defBody (top 12)) (defScope (top 12)) .none kV12 dc12 pm12 an12 cd12 ct12), sl12⟩) (c12 : PySem.W.codeIn K cd12 "lines_of" = true) (k12 : PySem.W.keepIn K (.ref f12) = true)
    (a13 : PySem.W.nsIn K mainGlobals "number_in" = some (some (.ref f13))) (l13 : K.lookup f13 = some ⟨oc13, od13, .func (PySem.W.fnOf "number_in" "number_in" (defArgs (top 13)) (defBody (top 13)) (defScope (top 13)) .none kV13 dc13 pm13 an13 cd13 ct13), sl13⟩) (c13 : PySem.W.codeIn K cd13 "number_in" = true) (k13 : PySem.W.keepIn K (.ref f13) = true)
    (a14 : PySem.W.nsIn K mainGlobals "number_between" = some (some (.ref f14))) (l14 : K.lookup f14 = some ⟨oc14, od14, .func (PySem.W.fnOf "number_between" "number_between" (defArgs (top 14)) (defBody (top 14)) (defScope (top 14)) .none kV14 dc14 pm14 an14 cd14 ct14), sl14⟩) (c14 : PySem.W.codeIn K cd14 "number_between" = true) (k14 : PySem.W.keepIn K (.ref f14) = true)
    (a15 : PySem.W.nsIn K mainGlobals "term_in" = some (some (.ref f15))) (l15 : K.lookup f15 = some ⟨oc15, od15, .func (PySem.W.fnOf "term_in" "term_in" (defArgs (top 15)) (defBody (top 15)) (defScope (top 15)) .none kV15 dc15 pm15 an15 cd15 ct15), sl15⟩) (c15 : PySem.W.codeIn K cd15 "term_in" = true) (k15 : PySem.W.keepIn K (.ref f15) = true)
    (a16 : PySem.W.nsIn K mainGlobals "sum_in" = some (some (.ref f16))) (l16 : K.lookup f16 = some ⟨oc16, od16, .func (PySem.W.fnOf "sum_in" "sum_in" (defArgs (top 16)) (defBody (top 16)) (defScope (top 16)) .none kV16 dc16 pm16 an16 cd16 ct16), sl16⟩) (c16 : PySem.W.codeIn K cd16 "sum_in" = true) (k16 : PySem.W.keepIn K (.ref f16) = true)
    (a17 : PySem.W.nsIn K mainGlobals "comparison_in" = some (some (.ref f17))) (l17 : K.lookup f17 = some ⟨oc17, od17, .func (PySem.W.fnOf "comparison_in" "comparison_in" (defArgs (top 17)) (defBody (top 17)) (defScope (top 17)) .none kV17 dc17 pm17 an17 cd17 ct17), sl17⟩) (c17 : PySem.W.codeIn K cd17 "comparison_in" = true) (k17 : PySem.W.keepIn K (.ref f17) = true)
    (a18 : PySem.W.nsIn K mainGlobals "parted" = some (some (.ref f18))) (l18 : K.lookup f18 = some ⟨oc18, od18, .func (PySem.W.fnOf "parted" "parted" (defArgs (top 18)) (defBody (top 18)) (defScope (top 18)) .none kV18 dc18 pm18 an18 cd18 ct18), sl18⟩) (c18 : PySem.W.codeIn K cd18 "parted" = true) (k18 : PySem.W.keepIn K (.ref f18) = true)
    (a19 : PySem.W.nsIn K mainGlobals "test_in" = some (some (.ref f19))) (l19 : K.lookup f19 = some ⟨oc19, od19, .func (PySem.W.fnOf "test_in" "test_in" (defArgs (top 19)) (defBody (top 19)) (defScope (top 19)) .none kV19 dc19 pm19 an19 cd19 ct19), sl19⟩) (c19 : PySem.W.codeIn K cd19 "test_in" = true) (k19 : PySem.W.keepIn K (.ref f19) = true)
    (a23 : PySem.W.nsIn K mainGlobals "targets_of" = some (some (.ref f23))) (l23 : K.lookup f23 = some ⟨oc23, od23, .func (PySem.W.fnOf "targets_of" "targets_of" (defArgs (top 23)) (defBody (top 23)) (defScope (top 23)) .none kV23 dc23 pm23 an23 cd23 ct23), sl23⟩) (c23 : PySem.W.codeIn K cd23 "targets_of" = true) (k23 : PySem.W.keepIn K (.ref f23) = true)
    (a24 : PySem.W.nsIn K mainGlobals "read_line" = some (some (.ref f24))) (l24 : K.lookup f24 = some ⟨oc24, od24, .func (PySem.W.fnOf "read_line" "read_line" (defArgs (top 25)) (defBody (top 25)) (defScope (top 25)) .none kV24 dc24 pm24 an24 cd24 ct24), sl24⟩) (c24 : PySem.W.codeIn K cd24 "read_line" = true) (k24 : PySem.W.keepIn K (.ref f24) = true)
    (a25 : PySem.W.nsIn K mainGlobals "read_outline" = some (some (.ref f25))) (l25 : K.lookup f25 = some ⟨oc25, od25, .func (PySem.W.fnOf "read_outline" "read_outline" (defArgs (top 26)) (defBody (top 26)) (defScope (top 26)) (.ref dT25) kV25 dc25 pm25 an25 cd25 ct25), sl25⟩) (c25 : PySem.W.codeIn K cd25 "read_outline" = true) (k25 : PySem.W.keepIn K (.ref f25) = true)
    (a26 : PySem.W.nsIn K mainGlobals "ways_through" = some (some (.ref f26))) (l26 : K.lookup f26 = some ⟨oc26, od26, .func (PySem.W.fnOf "ways_through" "ways_through" (defArgs (top 27)) (defBody (top 27)) (defScope (top 27)) .none kV26 dc26 pm26 an26 cd26 ct26), sl26⟩) (c26 : PySem.W.codeIn K cd26 "ways_through" = true) (k26 : PySem.W.keepIn K (.ref f26) = true)
    (a27 : PySem.W.nsIn K mainGlobals "line_above" = some (some (.ref f27))) (l27 : K.lookup f27 = some ⟨oc27, od27, .func (PySem.W.fnOf "line_above" "line_above" (defArgs (top 28)) (defBody (top 28)) (defScope (top 28)) .none kV27 dc27 pm27 an27 cd27 ct27), sl27⟩) (c27 : PySem.W.codeIn K cd27 "line_above" = true) (k27 : PySem.W.keepIn K (.ref f27) = true)
    (a28 : PySem.W.nsIn K mainGlobals "refuse_least" = some (some (.ref f28))) (l28 : K.lookup f28 = some ⟨oc28, od28, .func (PySem.W.fnOf "refuse_least" "refuse_least" (defArgs (top 29)) (defBody (top 29)) (defScope (top 29)) .none kV28 dc28 pm28 an28 cd28 ct28), sl28⟩) (c28 : PySem.W.codeIn K cd28 "refuse_least" = true) (k28 : PySem.W.keepIn K (.ref f28) = true)
    (a42 : PySem.W.nsIn K mainGlobals "is_run" = some (some (.ref f42))) (l42 : K.lookup f42 = some ⟨oc42, od42, .func (PySem.W.fnOf "is_run" "is_run" (defArgs (top 43)) (defBody (top 43)) (defScope (top 43)) .none kV42 dc42 pm42 an42 cd42 ct42), sl42⟩) (c42 : PySem.W.codeIn K cd42 "is_run" = true) (k42 : PySem.W.keepIn K (.ref f42) = true)
    (a43 : PySem.W.nsIn K mainGlobals "names_for" = some (some (.ref f43))) (l43 : K.lookup f43 = some ⟨oc43, od43, .func (PySem.W.fnOf "names_for" "names_for" (defArgs (top 44)) (defBody (top 44)) (defScope (top 44)) .none kV43 dc43 pm43 an43 cd43 ct43), sl43⟩) (c43 : PySem.W.codeIn K cd43 "names_for" = true) (k43 : PySem.W.keepIn K (.ref f43) = true)
    (a44 : PySem.W.nsIn K mainGlobals "operand_in" = some (some (.ref f44))) (l44 : K.lookup f44 = some ⟨oc44, od44, .func (PySem.W.fnOf "operand_in" "operand_in" (defArgs (top 45)) (defBody (top 45)) (defScope (top 45)) .none kV44 dc44 pm44 an44 cd44 ct44), sl44⟩) (c44 : PySem.W.codeIn K cd44 "operand_in" = true) (k44 : PySem.W.keepIn K (.ref f44) = true)
    (a45 : PySem.W.nsIn K mainGlobals "head_step_in" = some (some (.ref f45))) (l45 : K.lookup f45 = some ⟨oc45, od45, .func (PySem.W.fnOf "head_step_in" "head_step_in" (defArgs (top 46)) (defBody (top 46)) (defScope (top 46)) .none kV45 dc45 pm45 an45 cd45 ct45), sl45⟩) (c45 : PySem.W.codeIn K cd45 "head_step_in" = true) (k45 : PySem.W.keepIn K (.ref f45) = true)
    (a46 : PySem.W.nsIn K mainGlobals "head_part_in" = some (some (.ref f46))) (l46 : K.lookup f46 = some ⟨oc46, od46, .func (PySem.W.fnOf "head_part_in" "head_part_in" (defArgs (top 47)) (defBody (top 47)) (defScope (top 47)) .none kV46 dc46 pm46 an46 cd46 ct46), sl46⟩) (c46 : PySem.W.codeIn K cd46 "head_part_in" = true) (k46 : PySem.W.keepIn K (.ref f46) = true)
    (a47 : PySem.W.nsIn K mainGlobals "marks_of" = some (some (.ref f47))) (l47 : K.lookup f47 = some ⟨oc47, od47, .func (PySem.W.fnOf "marks_of" "marks_of" (defArgs (top 48)) (defBody (top 48)) (defScope (top 48)) .none kV47 dc47 pm47 an47 cd47 ct47), sl47⟩) (c47 : PySem.W.codeIn K cd47 "marks_of" = true) (k47 : PySem.W.keepIn K (.ref f47) = true)
    (a50 : PySem.W.nsIn K mainGlobals "_law_bag" = some (some (.ref f50))) (l50 : K.lookup f50 = some ⟨oc50, od50, .func (PySem.W.fnOf "_law_bag" "_law_bag" (defArgs (top 51)) (defBody (top 51)) (defScope (top 51)) .none kV50 dc50 pm50 an50 cd50 ct50), sl50⟩) (c50 : PySem.W.codeIn K cd50 "_law_bag" = true) (k50 : PySem.W.keepIn K (.ref f50) = true)
    (a51 : PySem.W.nsIn K mainGlobals "_law_draw" = some (some (.ref f51))) (l51 : K.lookup f51 = some ⟨oc51, od51, .func (PySem.W.fnOf "_law_draw" "_law_draw" (defArgs (top 52)) (defBody (top 52)) (defScope (top 52)) .none kV51 dc51 pm51 an51 cd51 ct51), sl51⟩) (c51 : PySem.W.codeIn K cd51 "_law_draw" = true) (k51 : PySem.W.keepIn K (.ref f51) = true)
    (a52 : PySem.W.nsIn K mainGlobals "_law_kinds" = some (some (.ref f52))) (l52 : K.lookup f52 = some ⟨oc52, od52, .func (PySem.W.fnOf "_law_kinds" "_law_kinds" (defArgs (top 53)) (defBody (top 53)) (defScope (top 53)) .none kV52 dc52 pm52 an52 cd52 ct52), sl52⟩) (c52 : PySem.W.codeIn K cd52 "_law_kinds" = true) (k52 : PySem.W.keepIn K (.ref f52) = true)
    (a53 : PySem.W.nsIn K mainGlobals "_law_goal" = some (some (.ref f53))) (l53 : K.lookup f53 = some ⟨oc53, od53, .func (PySem.W.fnOf "_law_goal" "_law_goal" (defArgs (top 54)) (defBody (top 54)) (defScope (top 54)) .none kV53 dc53 pm53 an53 cd53 ct53), sl53⟩) (c53 : PySem.W.codeIn K cd53 "_law_goal" = true) (k53 : PySem.W.keepIn K (.ref f53) = true)
    (a54 : PySem.W.nsIn K mainGlobals "_law_names" = some (some (.ref f54))) (l54 : K.lookup f54 = some ⟨oc54, od54, .func (PySem.W.fnOf "_law_names" "_law_names" (defArgs (top 55)) (defBody (top 55)) (defScope (top 55)) .none kV54 dc54 pm54 an54 cd54 ct54), sl54⟩) (c54 : PySem.W.codeIn K cd54 "_law_names" = true) (k54 : PySem.W.keepIn K (.ref f54) = true)
    (a55 : PySem.W.nsIn K mainGlobals "_law_number" = some (some (.ref f55))) (l55 : K.lookup f55 = some ⟨oc55, od55, .func (PySem.W.fnOf "_law_number" "_law_number" (defArgs (top 56)) (defBody (top 56)) (defScope (top 56)) .none kV55 dc55 pm55 an55 cd55 ct55), sl55⟩) (c55 : PySem.W.codeIn K cd55 "_law_number" = true) (k55 : PySem.W.keepIn K (.ref f55) = true)
    (a56 : PySem.W.nsIn K mainGlobals "_law_is_run" = some (some (.ref f56))) (l56 : K.lookup f56 = some ⟨oc56, od56, .func (PySem.W.fnOf "_law_is_run" "_law_is_run" (defArgs (top 57)) (defBody (top 57)) (defScope (top 57)) .none kV56 dc56 pm56 an56 cd56 ct56), sl56⟩) (c56 : PySem.W.codeIn K cd56 "_law_is_run" = true) (k56 : PySem.W.keepIn K (.ref f56) = true)
    (a57 : PySem.W.nsIn K mainGlobals "_law_is_sum" = some (some (.ref f57))) (l57 : K.lookup f57 = some ⟨oc57, od57, .func (PySem.W.fnOf "_law_is_sum" "_law_is_sum" (defArgs (top 58)) (defBody (top 58)) (defScope (top 58)) .none kV57 dc57 pm57 an57 cd57 ct57), sl57⟩) (c57 : PySem.W.codeIn K cd57 "_law_is_sum" = true) (k57 : PySem.W.keepIn K (.ref f57) = true)
    (a58 : PySem.W.nsIn K mainGlobals "_law_is_part" = some (some (.ref f58))) (l58 : K.lookup f58 = some ⟨oc58, od58, .func (PySem.W.fnOf "_law_is_part" "_law_is_part" (defArgs (top 59)) (defBody (top 59)) (defScope (top 59)) .none kV58 dc58 pm58 an58 cd58 ct58), sl58⟩) (c58 : PySem.W.codeIn K cd58 "_law_is_part" = true) (k58 : PySem.W.keepIn K (.ref f58) = true)
    (a59 : PySem.W.nsIn K mainGlobals "_law_is_line" = some (some (.ref f59))) (l59 : K.lookup f59 = some ⟨oc59, od59, .func (PySem.W.fnOf "_law_is_line" "_law_is_line" (defArgs (top 60)) (defBody (top 60)) (defScope (top 60)) .none kV59 dc59 pm59 an59 cd59 ct59), sl59⟩) (c59 : PySem.W.codeIn K cd59 "_law_is_line" = true) (k59 : PySem.W.keepIn K (.ref f59) = true)
    (a60 : PySem.W.nsIn K mainGlobals "_law_drawn_number" = some (some (.ref f60))) (l60 : K.lookup f60 = some ⟨oc60, od60, .func (PySem.W.fnOf "_law_drawn_number" "_law_drawn_number" (defArgs (top 61)) (defBody (top 61)) (defScope (top 61)) .none kV60 dc60 pm60 an60 cd60 ct60), sl60⟩) (c60 : PySem.W.codeIn K cd60 "_law_drawn_number" = true) (k60 : PySem.W.keepIn K (.ref f60) = true)
    (a61 : PySem.W.nsIn K mainGlobals "_law_drawn_line" = some (some (.ref f61))) (l61 : K.lookup f61 = some ⟨oc61, od61, .func (PySem.W.fnOf "_law_drawn_line" "_law_drawn_line" (defArgs (top 62)) (defBody (top 62)) (defScope (top 62)) .none kV61 dc61 pm61 an61 cd61 ct61), sl61⟩) (c61 : PySem.W.codeIn K cd61 "_law_drawn_line" = true) (k61 : PySem.W.keepIn K (.ref f61) = true)
    (a62 : PySem.W.nsIn K mainGlobals "_law_spoiled" = some (some (.ref f62))) (l62 : K.lookup f62 = some ⟨oc62, od62, .func (PySem.W.fnOf "_law_spoiled" "_law_spoiled" (defArgs (top 63)) (defBody (top 63)) (defScope (top 63)) .none kV62 dc62 pm62 an62 cd62 ct62), sl62⟩) (c62 : PySem.W.codeIn K cd62 "_law_spoiled" = true) (k62 : PySem.W.keepIn K (.ref f62) = true)
    (a63 : PySem.W.nsIn K mainGlobals "_law_told" = some (some (.ref f63))) (l63 : K.lookup f63 = some ⟨oc63, od63, .func (PySem.W.fnOf "_law_told" "_law_told" (defArgs (top 64)) (defBody (top 64)) (defScope (top 64)) .none kV63 dc63 pm63 an63 cd63 ct63), sl63⟩) (c63 : PySem.W.codeIn K cd63 "_law_told" = true) (k63 : PySem.W.keepIn K (.ref f63) = true)
    (a64 : PySem.W.nsIn K mainGlobals "law" = some (some (.ref f64))) (l64 : K.lookup f64 = some ⟨oc64, od64, .func (PySem.W.fnOf "law" "law" (defArgs (top 65)) (defBody (top 65)) (defScope (top 65)) .none kV64 dc64 pm64 an64 cd64 ct64), sl64⟩) (c64 : PySem.W.codeIn K cd64 "law" = true) (k64 : PySem.W.keepIn K (.ref f64) = true)
    (am0 : PySem.W.findIn K (.ref CO) "__init__" = some (some (.ref fm0))) (jm0 : PySem.W.isFn K (.ref fm0) = true) (lm0 : K.lookup fm0 = some ⟨ocm0, odm0, .func (PySem.W.fnOf "__init__" "Outline.__init__" (defArgs (sOI)) (defBody (sOI)) (defScope (sOI)) .none kVm0 dcm0 pmm0 anm0 cdm0 ctm0), slm0⟩) (cm0 : PySem.W.codeIn K cdm0 "Outline.__init__" = true) (km0 : PySem.W.keepIn K (.ref fm0) = true)
    (am1 : PySem.W.findIn K (.ref CO) "step_at" = some (some (.ref fm1))) (jm1 : PySem.W.isFn K (.ref fm1) = true) (lm1 : K.lookup fm1 = some ⟨ocm1, odm1, .func (PySem.W.fnOf "step_at" "Outline.step_at" (defArgs (sStepAt)) (defBody (sStepAt)) (defScope (sStepAt)) .none kVm1 dcm1 pmm1 anm1 cdm1 ctm1), slm1⟩) (cm1 : PySem.W.codeIn K cdm1 "Outline.step_at" = true) (km1 : PySem.W.keepIn K (.ref fm1) = true)
    (am2 : PySem.W.findIn K (.ref CO) "target_at" = some (some (.ref fm2))) (jm2 : PySem.W.isFn K (.ref fm2) = true) (lm2 : K.lookup fm2 = some ⟨ocm2, odm2, .func (PySem.W.fnOf "target_at" "Outline.target_at" (defArgs (sTargetAt)) (defBody (sTargetAt)) (defScope (sTargetAt)) .none kVm2 dcm2 pmm2 anm2 cdm2 ctm2), slm2⟩) (cm2 : PySem.W.codeIn K cdm2 "Outline.target_at" = true) (km2 : PySem.W.keepIn K (.ref fm2) = true)
    (am3 : PySem.W.findIn K (.ref CO) "many_lines" = some (some (.ref fm3))) (jm3 : PySem.W.isFn K (.ref fm3) = true) (lm3 : K.lookup fm3 = some ⟨ocm3, odm3, .func (PySem.W.fnOf "many_lines" "Outline.many_lines" (defArgs (sMany)) (defBody (sMany)) (defScope (sMany)) .none kVm3 dcm3 pmm3 anm3 cdm3 ctm3), slm3⟩) (cm3 : PySem.W.codeIn K cdm3 "Outline.many_lines" = true) (km3 : PySem.W.keepIn K (.ref fm3) = true)
    (am4 : PySem.W.findIn K (.ref CH) "__init__" = some (some (.ref fm4))) (jm4 : PySem.W.isFn K (.ref fm4) = true) (lm4 : K.lookup fm4 = some ⟨ocm4, odm4, .func (PySem.W.fnOf "__init__" "HeadCode.__init__" (defArgs (sHI)) (defBody (sHI)) (defScope (sHI)) .none kVm4 dcm4 pmm4 anm4 cdm4 ctm4), slm4⟩) (cm4 : PySem.W.codeIn K cdm4 "HeadCode.__init__" = true) (km4 : PySem.W.keepIn K (.ref fm4) = true)
    (lD : K.lookup dT25 = some ⟨.type "tuple", ddT, .seq itD nD, slD⟩)
    (lDs : (⟨.type "tuple", ddT, .seq itD nD, slD⟩ : Obj).data = .seq #[.none] nD)
    (o_g : PySem.W.nsIn K mainGlobals "Outline" = some (some (.ref CO)))
    (o_pg : PySem.W.plainGet K CO Str.empty = true)
    (o_hd : PySem.W.hasDictIn K CO = true)
    (o_po : PySem.W.plainOver K CO = true)
    (o_sa : PySem.W.findIn K (.ref CO) "__setattr__" = some (some (.builtin "object.__setattr__")))
    (o_mk : PySem.W.makesIn K CO = true)
    (o_kc : PySem.W.keepIn K (.ref CO) = true)
    (o_nrows : PySem.W.findIn K (.ref CO) "rows" = some none)
    (o_nsteps : PySem.W.findIn K (.ref CO) "steps" = some none)
    (o_ntargets : PySem.W.findIn K (.ref CO) "targets" = some none)
    (h_g : PySem.W.nsIn K mainGlobals "HeadCode" = some (some (.ref CH)))
    (h_pg : PySem.W.plainGet K CH Str.empty = true)
    (h_hd : PySem.W.hasDictIn K CH = true)
    (h_po : PySem.W.plainOver K CH = true)
    (h_sa : PySem.W.findIn K (.ref CH) "__setattr__" = some (some (.builtin "object.__setattr__")))
    (h_mk : PySem.W.makesIn K CH = true)
    (h_kc : PySem.W.keepIn K (.ref CH) = true)
    (h_nkind : PySem.W.findIn K (.ref CH) "kind" = some none)
    (h_ntext : PySem.W.findIn K (.ref CH) "text" = some none)
    (h_noutline : PySem.W.findIn K (.ref CH) "outline" = some none)
    (aqC : PySem.W.nsIn K mainGlobals "COMPARISONS" = some (some (.ref cqC)))
    (lqC : K.lookup cqC = some ⟨.type "tuple", dqC, .seq itsqC nqC, slqC⟩)
    (vqC : strsAt itsqC.toList = some cmps)
    (aqE : PySem.W.nsIn K mainGlobals "ENDERS" = some (some (.ref cqE)))
    (lqE : K.lookup cqE = some ⟨.type "tuple", dqE, .seq itsqE nqE, slqE⟩)
    (vqE : strsAt itsqE.toList = some enders)
    (aqK : PySem.W.nsIn K mainGlobals "HEAD_KINDS" = some (some (.ref cqK)))
    (lqK : K.lookup cqK = some ⟨.type "tuple", dqK, .seq itsqK nqK, slqK⟩)
    (vqK : strsAt itsqK.toList = some kinds8)
    (aqG : PySem.W.nsIn K mainGlobals "REGISTERS" = some (some (.ref cqG)))
    (lqG : K.lookup cqG = some ⟨.type "tuple", dqG, .seq itsqG nqG, slqG⟩)
    (vqG : strsAt itsqG.toList = some regs)
    (aqS : PySem.W.nsIn K mainGlobals "SHIFTS" = some (some (.ref cqS)))
    (lqS : K.lookup cqS = some ⟨.type "tuple", dqS, .seq itsqS nqS, slqS⟩)
    (vqS : strsAt itsqS.toList = some shifts)
    (aqM : PySem.W.nsIn K mainGlobals "MASKS" = some (some (.ref cqM)))
    (lqM : K.lookup cqM = some ⟨.type "tuple", dqM, .seq itsqM nqM, slqM⟩)
    (vqM : strsAt itsqM.toList = some masks)
    (aiF : PySem.W.nsIn K mainGlobals "MOST_FIGURES" = some (some (.int 30 tiF)))
    (aiT : PySem.W.nsIn K mainGlobals "MOST_TERMS" = some (some (.int 4 tiT)))
    (aiP : PySem.W.nsIn K mainGlobals "MOST_PARTS" = some (some (.int 4 tiP)))
    (aiS : PySem.W.nsIn K mainGlobals "MOST_SHIFT" = some (some (.int 63 tiS)))
    (aiR : PySem.W.nsIn K mainGlobals "RUN_TOP" = some (some (.int 18446744073709551616 tiR)))
    (aiL : PySem.W.nsIn K mainGlobals "MOST_LINES" = some (some (.int 20 tiL)))
    (aiI : PySem.W.nsIn K mainGlobals "MOST_IFS" = some (some (.int 4 tiI)))
    (aiX : PySem.W.nsIn K mainGlobals "MOST_SET" = some (some (.int 3 tiX)))
    (aiY : PySem.W.nsIn K mainGlobals "MOST_MADE" = some (some (.int 6 tiY)))
    (z0 : PySem.W.nsIn K mainGlobals "isinstance" = some none)
    (z1 : PySem.W.nsIn K mainGlobals "str" = some none)
    (z2 : PySem.W.nsIn K mainGlobals "len" = some none)
    (z3 : PySem.W.nsIn K mainGlobals "int" = some none)
    (z4 : PySem.W.nsIn K mainGlobals "range" = some none)
    (z5 : PySem.W.nsIn K mainGlobals "tuple" = some none)
    (z6 : PySem.W.nsIn K mainGlobals "list" = some none)
    (z7 : PySem.W.nsIn K mainGlobals "enumerate" = some none)
    (z8 : PySem.W.nsIn K mainGlobals "min" = some none)
    (aHA : PySem.W.nsIn K mainGlobals "HANDED" = some (some (.ref cHA)))
    (lHA : K.lookup cHA = some ⟨.type "dict", none, .dict esH nH, #[]⟩)
    (wHA : PySem.W.KeysLit w.params esH.toList)
    (fH0 : PySem.W.nsIn K cHA "make" = some (some (.ref tH0)))
    (lH0 : K.lookup tH0 = some ⟨.type "tuple", dw0, .seq itsw0 nw0, slw0⟩)
    (vH0 : strsAt itsw0.toList = some (handedM "make"))
    (fH1 : PySem.W.nsIn K cHA "size" = some (some (.ref tH1)))
    (lH1 : K.lookup tH1 = some ⟨.type "tuple", dw1, .seq itsw1 nw1, slw1⟩)
    (vH1 : strsAt itsw1.toList = some (handedM "size"))
    (fH2 : PySem.W.nsIn K cHA "used" = some (some (.ref tH2)))
    (lH2 : K.lookup tH2 = some ⟨.type "tuple", dw2, .seq itsw2 nw2, slw2⟩)
    (vH2 : strsAt itsw2.toList = some (handedM "used"))
    (fH3 : PySem.W.nsIn K cHA "ahead" = some (some (.ref tH3)))
    (lH3 : K.lookup tH3 = some ⟨.type "tuple", dw3, .seq itsw3 nw3, slw3⟩)
    (vH3 : strsAt itsw3.toList = some (handedM "ahead"))
    (fH4 : PySem.W.nsIn K cHA "use" = some (some (.ref tH4)))
    (lH4 : K.lookup tH4 = some ⟨.type "tuple", dw4, .seq itsw4 nw4, slw4⟩)
    (vH4 : strsAt itsw4.toList = some (handedM "use"))
    (fH5 : PySem.W.nsIn K cHA "free" = some (some (.ref tH5)))
    (lH5 : K.lookup tH5 = some ⟨.type "tuple", dw5, .seq itsw5 nw5, slw5⟩)
    (vH5 : strsAt itsw5.toList = some (handedM "free"))
    (fH6 : PySem.W.nsIn K cHA "meet" = some (some (.ref tH6)))
    (lH6 : K.lookup tH6 = some ⟨.type "tuple", dw6, .seq itsw6 nw6, slw6⟩)
    (vH6 : strsAt itsw6.toList = some (handedM "meet"))
    (fH7 : PySem.W.nsIn K cHA "part" = some (some (.ref tH7)))
    (lH7 : K.lookup tH7 = some ⟨.type "tuple", dw7, .seq itsw7 nw7, slw7⟩)
    (vH7 : strsAt itsw7.toList = some (handedM "part"))
    (fH8 : PySem.W.nsIn K cHA "round" = some (some (.ref tH8)))
    (lH8 : K.lookup tH8 = some ⟨.type "tuple", dw8, .seq itsw8 nw8, slw8⟩)
    (vH8 : strsAt itsw8.toList = some (handedM "round"))
    (aTO : PySem.W.nsIn K mainGlobals "TOLD" = some (some (.ref cTO)))
    (lTO : K.lookup cTO = some ⟨.type "dict", none, .dict esT nT, #[]⟩)
    (wTO : PySem.W.KeysLit w.params esT.toList)
    (fT0 : PySem.W.nsIn K cTO "make" = some (some (.str "word" tT0)))
    (fT1 : PySem.W.nsIn K cTO "size" = some (some (.str "size" tT1)))
    (fT2 : PySem.W.nsIn K cTO "used" = some (some (.str "used" tT2)))
    (fT3 : PySem.W.nsIn K cTO "ahead" = some (some (.str "ahead" tT3)))
    (fT4 : PySem.W.nsIn K cTO "use" = some (some (.str "word" tT4)))
    (fT5 : PySem.W.nsIn K cTO "free" = some (some (.str "word" tT5)))
    (fT6 : PySem.W.nsIn K cTO "meet" = some (some (.str "word" tT6)))
    (fT7 : PySem.W.nsIn K cTO "part" = some (some (.str "word" tT7)))
    (fT8 : PySem.W.nsIn K cTO "round" = some (some (.str "size" tT8)))
    (e_a : PySem.W.nsIn K mainGlobals "Refused" = some (some (.ref CR)))
    (e_xL : K.lookup CR = some (excClassObj nm qq CR N bs bm true sn sub ab col dd k0 k1 k2 k3 k5 "ValueError.__new__"))
    (e_hbm : PySem.HandSPX.refsVE bm = true)
    (e_sa : PySem.W.findIn K (.ref CR) "__setattr__" = some (some (.builtin "object.__setattr__")))
    (e_iC : PySem.W.findIn K (.ref CR) "__init__" = some (some (.ref fI)))
    (e_tI : PySem.W.typeIn K (.ref fI) = some (.type "function"))
    (e_kC : PySem.W.keepIn K (.ref CR) = true)
    (e_exC : PySem.W.subIn K (.ref CR) (.type "BaseException") = some true)
    (e_veC : PySem.W.subIn K (.ref CR) (.type "ValueError") = some true)
    (e_meC : PySem.W.mroIn K CR (.ref CR) = some true)
    (e_tyC : PySem.W.typeIn K (.ref CR) = some (.type "type"))
    (e_sup : PySem.W.ks_superIn K CR CR "__init__" = some (some (.builtin "ValueError.__init__")))
    (e_opq : PySem.W.nsIn K cStatics "thirdparty.any" = some none)
    (e_gS : PySem.W.nsIn K mainGlobals "super" = some none)
    (e_fn : K.lookup fI = some ⟨ocE, odE, .func (PySem.W.ksFn "__init__" "Refused.__init__" (defArgs sRefI) (defBody sRefI) (defScope sRefI) .none kVE docE pmE anE (.ref cda) ctE cc), oslE⟩)
    (e_cell : K.lookup cc = some ⟨cl, cld, .cell (some (.ref CR)), csl⟩)
    (e_code : K.lookup cda = some ⟨ccl, cdd, .fields vs, ccs⟩)
    (e_hvs : vs[2]? = some (.str file tf))
    (e_hfile : ((PP.main.file : Str) == file) = true)
    (e_rc : PySem.W.codeIn K (.ref cda) "Refused.__init__" = true)
    (e_n1 : PySem.W.findIn K (.ref CR) "line" = some none)
    (e_ga : PySem.W.findIn K (.ref CR) "__getattribute__" = some (some (.builtin "BaseException.__getattribute__")))
    (e_gg : PySem.W.findIn K (.ref CR) "__getattr__" = some none)
    (e_hd : PySem.W.hasDictIn K CR = true)
    (e_xm : PySem.W.exmOne K (.ref CR) (.ref CR) = some true)
    (f_a : PySem.W.nsIn K mainGlobals "BadLine" = some (some (.ref CB)))
    (f_xL : K.lookup CB = some (excClassObj nmz qqz CB Nz bsz bmz true snz subz abz colz ddz k0z k1z k2z k3z k5z "ValueError.__new__"))
    (f_hbm : PySem.HandSPX.refsVE bmz = true)
    (f_sa : PySem.W.findIn K (.ref CB) "__setattr__" = some (some (.builtin "object.__setattr__")))
    (f_iC : PySem.W.findIn K (.ref CB) "__init__" = some (some (.ref fIz)))
    (f_tI : PySem.W.typeIn K (.ref fIz) = some (.type "function"))
    (f_kC : PySem.W.keepIn K (.ref CB) = true)
    (f_exC : PySem.W.subIn K (.ref CB) (.type "BaseException") = some true)
    (f_veC : PySem.W.subIn K (.ref CB) (.type "ValueError") = some true)
    (f_meC : PySem.W.mroIn K CB (.ref CB) = some true)
    (f_tyC : PySem.W.typeIn K (.ref CB) = some (.type "type"))
    (f_sup : PySem.W.ks_superIn K CB CB "__init__" = some (some (.builtin "ValueError.__init__")))
    (f_opq : PySem.W.nsIn K cStatics "thirdparty.any" = some none)
    (f_gS : PySem.W.nsIn K mainGlobals "super" = some none)
    (f_fn : K.lookup fIz = some ⟨ocEz, odEz, .func (PySem.W.ksFn "__init__" "BadLine.__init__" (defArgs sBadI) (defBody sBadI) (defScope sBadI) .none kVEz docEz pmEz anEz (.ref cdaz) ctEz ccz), oslEz⟩)
    (f_cell : K.lookup ccz = some ⟨clz, cldz, .cell (some (.ref CB)), cslz⟩)
    (f_code : K.lookup cdaz = some ⟨cclz, cddz, .fields vsz, ccsz⟩)
    (f_hvs : vsz[2]? = some (.str filez tfz))
    (f_hfile : ((PP.main.file : Str) == filez) = true)
    (f_rc : PySem.W.codeIn K (.ref cdaz) "BadLine.__init__" = true)
    (f_n1 : PySem.W.findIn K (.ref CB) "line" = some none)
    (f_ga : PySem.W.findIn K (.ref CB) "__getattribute__" = some (some (.builtin "BaseException.__getattribute__")))
    (f_gg : PySem.W.findIn K (.ref CB) "__getattr__" = some none)
    (f_hd : PySem.W.hasDictIn K CB = true)
    (f_xm : PySem.W.exmOne K (.ref CB) (.ref CB) = some true) :
    ∃ fd : FuncData, (∀ (s : Shared) (v : Value), BindsTo s fd ⟨[v], []⟩ [("_law_script", v)]) ∧ ∀ base : Heap, K.In base → base.Ns mainGlobals mg → FnOk PP w K mg base CX0 11 fa fd ["_law_script"] (spLaw K) := by
  have e := hfa.symm.trans (PySem.W.mg_of X G a64)
  cases e
  have F11 := fun_mk (st := top 11) l11 c11 k11
  have g11 := PySem.W.mg_of X G a11
  have b11 := F11.binds (ps := ["value", "words"]) fun _ _ _ _ _ _ us hl => match us, hl with | [_, _], _ => rfl
  have F12 := fun_mk (st := top 12) l12 c12 k12
  have g12 := PySem.W.mg_of X G a12
  have b12 := F12.binds (ps := ["text"]) fun _ _ _ _ _ _ us hl => match us, hl with | [_], _ => rfl
  have F13 := fun_mk (st := top 13) l13 c13 k13
  have g13 := PySem.W.mg_of X G a13
  have b13 := F13.binds (ps := ["word"]) fun _ _ _ _ _ _ us hl => match us, hl with | [_], _ => rfl
  have F14 := fun_mk (st := top 14) l14 c14 k14
  have g14 := PySem.W.mg_of X G a14
  have b14 := F14.binds (ps := ["word", "least", "most"]) fun _ _ _ _ _ _ us hl => match us, hl with | [_, _, _], _ => rfl
  have F15 := fun_mk (st := top 15) l15 c15 k15
  have g15 := PySem.W.mg_of X G a15
  have b15 := F15.binds (ps := ["word", "names"]) fun _ _ _ _ _ _ us hl => match us, hl with | [_, _], _ => rfl
  have F16 := fun_mk (st := top 16) l16 c16 k16
  have g16 := PySem.W.mg_of X G a16
  have b16 := F16.binds (ps := ["words", "names"]) fun _ _ _ _ _ _ us hl => match us, hl with | [_, _], _ => rfl
  have F17 := fun_mk (st := top 17) l17 c17 k17
  have g17 := PySem.W.mg_of X G a17
  have b17 := F17.binds (ps := ["words", "names"]) fun _ _ _ _ _ _ us hl => match us, hl with | [_, _], _ => rfl
  have F18 := fun_mk (st := top 18) l18 c18 k18
  have g18 := PySem.W.mg_of X G a18
  have b18 := F18.binds (ps := ["words"]) fun _ _ _ _ _ _ us hl => match us, hl with | [_], _ => rfl
  have F19 := fun_mk (st := top 19) l19 c19 k19
  have g19 := PySem.W.mg_of X G a19
  have b19 := F19.binds (ps := ["words", "part_in", "kind"]) fun _ _ _ _ _ _ us hl => match us, hl with | [_, _, _], _ => rfl
  have F23 := fun_mk (st := top 23) l23 c23 k23
  have g23 := PySem.W.mg_of X G a23
  have b23 := F23.binds (ps := ["steps"]) fun _ _ _ _ _ _ us hl => match us, hl with | [_], _ => rfl
  have F24 := fun_mk (st := top 25) l24 c24 k24
  have g24 := PySem.W.mg_of X G a24
  have b24 := F24.binds (ps := ["words", "kind", "step_in", "part_in", "loop_in", "nest"]) fun _ _ _ _ _ _ us hl => match us, hl with | [_, _, _, _, _, _], _ => rfl
  have F25 := outl_fund l25 lD lDs c25 k25
  have g25 := PySem.W.mg_of X G a25
  obtain ⟨ds25, r25, b25⟩ := outl_binds F25
  have F26 := fun_mk (st := top 27) l26 c26 k26
  have g26 := PySem.W.mg_of X G a26
  have b26 := F26.binds (ps := ["outline"]) fun _ _ _ _ _ _ us hl => match us, hl with | [_], _ => rfl
  have F27 := fun_mk (st := top 28) l27 c27 k27
  have g27 := PySem.W.mg_of X G a27
  have b27 := F27.binds (ps := ["outline", "way", "marks_of", "most"]) fun _ _ _ _ _ _ us hl => match us, hl with | [_, _, _, _], _ => rfl
  have F28 := fun_mk (st := top 29) l28 c28 k28
  have g28 := PySem.W.mg_of X G a28
  have b28 := F28.binds (ps := ["lines"]) fun _ _ _ _ _ _ us hl => match us, hl with | [_], _ => rfl
  have F42 := fun_mk (st := top 43) l42 c42 k42
  have g42 := PySem.W.mg_of X G a42
  have b42 := F42.binds (ps := ["number"]) fun _ _ _ _ _ _ us hl => match us, hl with | [_], _ => rfl
  have F43 := fun_mk (st := top 44) l43 c43 k43
  have g43 := PySem.W.mg_of X G a43
  have b43 := F43.binds (ps := ["kind"]) fun _ _ _ _ _ _ us hl => match us, hl with | [_], _ => rfl
  have F44 := fun_mk (st := top 45) l44 c44 k44
  have g44 := PySem.W.mg_of X G a44
  have b44 := F44.binds (ps := ["sign", "word"]) fun _ _ _ _ _ _ us hl => match us, hl with | [_, _], _ => rfl
  have F45 := fun_mk (st := top 46) l45 c45 k45
  have g45 := PySem.W.mg_of X G a45
  have b45 := F45.binds (ps := ["words", "kind"]) fun _ _ _ _ _ _ us hl => match us, hl with | [_, _], _ => rfl
  have F46 := fun_mk (st := top 47) l46 c46 k46
  have g46 := PySem.W.mg_of X G a46
  have b46 := F46.binds (ps := ["words", "kind"]) fun _ _ _ _ _ _ us hl => match us, hl with | [_, _], _ => rfl
  have F47 := fun_mk (st := top 48) l47 c47 k47
  have g47 := PySem.W.mg_of X G a47
  have b47 := F47.binds (ps := ["step"]) fun _ _ _ _ _ _ us hl => match us, hl with | [_], _ => rfl
  have F50 := fun_mk (st := top 51) l50 c50 k50
  have g50 := PySem.W.mg_of X G a50
  have b50 := F50.binds (ps := ["_law_script"]) fun _ _ _ _ _ _ us hl => match us, hl with | [_], _ => rfl
  have F51 := fun_mk (st := top 52) l51 c51 k51
  have g51 := PySem.W.mg_of X G a51
  have b51 := F51.binds (ps := ["_law_bag_here", "_law_limit"]) fun _ _ _ _ _ _ us hl => match us, hl with | [_, _], _ => rfl
  have F52 := fun_mk (st := top 53) l52 c52 k52
  have g52 := PySem.W.mg_of X G a52
  have b52 := F52.binds (ps := []) fun _ _ _ _ _ _ us hl => match us, hl with | [], _ => rfl
  have F53 := fun_mk (st := top 54) l53 c53 k53
  have g53 := PySem.W.mg_of X G a53
  have b53 := F53.binds (ps := ["_law_kind"]) fun _ _ _ _ _ _ us hl => match us, hl with | [_], _ => rfl
  have F54 := fun_mk (st := top 55) l54 c54 k54
  have g54 := PySem.W.mg_of X G a54
  have b54 := F54.binds (ps := ["_law_kind"]) fun _ _ _ _ _ _ us hl => match us, hl with | [_], _ => rfl
  have F55 := fun_mk (st := top 56) l55 c55 k55
  have g55 := PySem.W.mg_of X G a55
  have b55 := F55.binds (ps := ["_law_piece"]) fun _ _ _ _ _ _ us hl => match us, hl with | [_], _ => rfl
  have F56 := fun_mk (st := top 57) l56 c56 k56
  have g56 := PySem.W.mg_of X G a56
  have b56 := F56.binds (ps := ["_law_number_here"]) fun _ _ _ _ _ _ us hl => match us, hl with | [_], _ => rfl
  have F57 := fun_mk (st := top 58) l57 c57 k57
  have g57 := PySem.W.mg_of X G a57
  have b57 := F57.binds (ps := ["_law_kind", "_law_words"]) fun _ _ _ _ _ _ us hl => match us, hl with | [_, _], _ => rfl
  have F58 := fun_mk (st := top 59) l58 c58 k58
  have g58 := PySem.W.mg_of X G a58
  have b58 := F58.binds (ps := ["_law_kind", "_law_words"]) fun _ _ _ _ _ _ us hl => match us, hl with | [_, _], _ => rfl
  have F59 := fun_mk (st := top 60) l59 c59 k59
  have g59 := PySem.W.mg_of X G a59
  have b59 := F59.binds (ps := ["_law_kind", "_law_text"]) fun _ _ _ _ _ _ us hl => match us, hl with | [_, _], _ => rfl
  have F60 := fun_mk (st := top 61) l60 c60 k60
  have g60 := PySem.W.mg_of X G a60
  have b60 := F60.binds (ps := ["_law_bag_here"]) fun _ _ _ _ _ _ us hl => match us, hl with | [_], _ => rfl
  have F61 := fun_mk (st := top 62) l61 c61 k61
  have g61 := PySem.W.mg_of X G a61
  have b61 := F61.binds (ps := ["_law_bag_here"]) fun _ _ _ _ _ _ us hl => match us, hl with | [_], _ => rfl
  have F62 := fun_mk (st := top 63) l62 c62 k62
  have g62 := PySem.W.mg_of X G a62
  have b62 := F62.binds (ps := ["_law_bag_here", "_law_text"]) fun _ _ _ _ _ _ us hl => match us, hl with | [_, _], _ => rfl
  have F63 := fun_mk (st := top 64) l63 c63 k63
  have g63 := PySem.W.mg_of X G a63
  have b63 := F63.binds (ps := ["_law_kind", "_law_lines"]) fun _ _ _ _ _ _ us hl => match us, hl with | [_, _], _ => rfl
  have F64 := fun_mk (st := top 65) l64 c64 k64
  have g64 := PySem.W.mg_of X G a64
  have Fm0 := fun_mk (st := sOI) lm0 cm0 km0
  have bm0 := Fm0.binds (ps := ["self", "rows", "steps"]) fun _ _ _ _ _ _ us hl => match us, hl with | [_, _, _], _ => rfl
  have Fm1 := fun_mk (st := sStepAt) lm1 cm1 km1
  have bm1 := Fm1.binds (ps := ["self", "line"]) fun _ _ _ _ _ _ us hl => match us, hl with | [_, _], _ => rfl
  have Fm2 := fun_mk (st := sTargetAt) lm2 cm2 km2
  have bm2 := Fm2.binds (ps := ["self", "line"]) fun _ _ _ _ _ _ us hl => match us, hl with | [_, _], _ => rfl
  have Fm3 := fun_mk (st := sMany) lm3 cm3 km3
  have bm3 := Fm3.binds (ps := ["self"]) fun _ _ _ _ _ _ us hl => match us, hl with | [_], _ => rfl
  have Fm4 := fun_mk (st := sHI) lm4 cm4 km4
  have bm4 := Fm4.binds (ps := ["self", "kind", "text"]) fun _ _ _ _ _ _ us hl => match us, hl with | [_, _, _], _ => rfl
  have TN : TxtN mg := ⟨(PySem.W.mg_none_of X G z0), (PySem.W.mg_none_of X G z1), (PySem.W.mg_none_of X G z2), (PySem.W.mg_none_of X G z3), (PySem.W.mg_none_of X G z4), (PySem.W.mg_none_of X G z5), (PySem.W.mg_none_of X G z6), (PySem.W.mg_none_of X G z7), (PySem.W.mg_none_of X G z8), ⟨_, PySem.W.mg_of X G aiF⟩, ⟨_, PySem.W.mg_of X G aiT⟩, ⟨_, PySem.W.mg_of X G aiP⟩⟩
  have TB : TxtB mg := ⟨(PySem.W.mg_none_of X G z2), (PySem.W.mg_none_of X G z3), (PySem.W.mg_none_of X G z6), (PySem.W.mg_none_of X G z4)⟩
  have TT : TxtT K mg := ⟨⟨_, PySem.W.mg_of X G aqC, tup_K lqC vqC (by decide)⟩⟩
  have TW : TxtW K mg := ⟨⟨_, PySem.W.mg_of X G aqE, tup_K lqE vqE (by decide)⟩⟩
  have TH : TxtH K w mg := ⟨⟨_, PySem.W.mg_of X G aiR⟩, ⟨_, PySem.W.mg_of X G aiS⟩, ⟨_, PySem.W.mg_of X G aqS, tup_K lqS vqS (by decide)⟩, ⟨_, PySem.W.mg_of X G aqM, tup_K lqM vqM (by decide)⟩, ⟨_, PySem.W.mg_of X G aqG, tup_K lqG vqG (by decide)⟩, ⟨_, PySem.W.mg_of X G aHA, nine ⟨_, ⟨_, _, _, lHA, wHA, fH0, rfl⟩, tup_K lH0 vH0 (by decide)⟩ ⟨_, ⟨_, _, _, lHA, wHA, fH1, rfl⟩, tup_K lH1 vH1 (by decide)⟩ ⟨_, ⟨_, _, _, lHA, wHA, fH2, rfl⟩, tup_K lH2 vH2 (by decide)⟩ ⟨_, ⟨_, _, _, lHA, wHA, fH3, rfl⟩, tup_K lH3 vH3 (by decide)⟩ ⟨_, ⟨_, _, _, lHA, wHA, fH4, rfl⟩, tup_K lH4 vH4 (by decide)⟩ ⟨_, ⟨_, _, _, lHA, wHA, fH5, rfl⟩, tup_K lH5 vH5 (by decide)⟩ ⟨_, ⟨_, _, _, lHA, wHA, fH6, rfl⟩, tup_K lH6 vH6 (by decide)⟩ ⟨_, ⟨_, _, _, lHA, wHA, fH7, rfl⟩, tup_K lH7 vH7 (by decide)⟩ ⟨_, ⟨_, _, _, lHA, wHA, fH8, rfl⟩, tup_K lH8 vH8 (by decide)⟩⟩, ⟨_, PySem.W.mg_of X G aTO, nine ⟨_, _, _, lTO, wTO, fT0, ⟨_, rfl⟩⟩ ⟨_, _, _, lTO, wTO, fT1, ⟨_, rfl⟩⟩ ⟨_, _, _, lTO, wTO, fT2, ⟨_, rfl⟩⟩ ⟨_, _, _, lTO, wTO, fT3, ⟨_, rfl⟩⟩ ⟨_, _, _, lTO, wTO, fT4, ⟨_, rfl⟩⟩ ⟨_, _, _, lTO, wTO, fT5, ⟨_, rfl⟩⟩ ⟨_, _, _, lTO, wTO, fT6, ⟨_, rfl⟩⟩ ⟨_, _, _, lTO, wTO, fT7, ⟨_, rfl⟩⟩ ⟨_, _, _, lTO, wTO, fT8, ⟨_, rfl⟩⟩⟩⟩
  have TO : TxtO K mg CO := ⟨⟨o_pg, o_hd, o_po, o_sa⟩, o_nrows, o_nsteps, o_ntargets, PySem.W.mg_of X G o_g⟩
  have TK : TxtK K mg CH := ⟨⟨h_pg, h_hd, h_po, h_sa⟩, h_nkind, h_ntext, h_noutline, PySem.W.mg_of X G h_g, ⟨_, PySem.W.mg_of X G aqK, tup_K lqK vqK (by decide)⟩, ⟨_, PySem.W.mg_of X G aiL⟩, ⟨_, PySem.W.mg_of X G aiI⟩, ⟨_, PySem.W.mg_of X G aiX⟩, ⟨_, PySem.W.mg_of X G aiY⟩⟩
  have TR : TxtR PP K mg CR fI cc cda := ⟨PySem.W.mg_of X G e_a, ⟨⟨_, _, _, _, _, _, _, _, _, _, _, _, _, _, _, e_xL, e_hbm⟩, e_sa, e_iC, e_tI, e_kC, e_exC, e_veC, e_meC, e_tyC, e_sup, e_opq, e_gS, ⟨_, _, _, e_cell⟩, ⟨_, _, _, _, _, _, e_code, e_hvs, e_hfile⟩, e_rc, ⟨_, _, _, _, _, _, _, _, e_fn⟩⟩, eb_ref, fun g hg => by
    rw [List.mem_singleton.mp hg]
    exact e_n1, (PySem.W.mg_none_of X G z8)⟩
  have TL : TxtL PP K mg CB fIz ccz cdaz := ⟨PySem.W.mg_of X G f_a, ⟨⟨_, _, _, _, _, _, _, _, _, _, _, _, _, _, _, f_xL, f_hbm⟩, f_sa, f_iC, f_tI, f_kC, f_exC, f_veC, f_meC, f_tyC, f_sup, f_opq, f_gS, ⟨_, _, _, f_cell⟩, ⟨_, _, _, _, _, _, f_code, f_hvs, f_hfile⟩, f_rc, ⟨_, _, _, _, _, _, _, _, f_fn⟩⟩, eb_bad, fun g hg => by
    rw [List.mem_singleton.mp hg]
    exact f_n1⟩
  have MO : Mk K CO fm0 := ⟨o_mk, am0, jm0, o_kc⟩
  have MH : Mk K CH fm4 := ⟨h_mk, am4, jm4, h_kc⟩
  refine ⟨PySem.W.fnOf "law" "law" (defArgs (top 65)) (defBody (top 65)) (defScope (top 65)) .none kV64 dc64 pm64 an64 cd64 ct64, fun s v => .of_eq rfl, fun base _ _ => ?_⟩
  have O13 := ok_num (P := PP) (w := w) (base := base) F13 TN
  have O15 := ok_term (P := PP) (w := w) (base := base) F15 TN F13 b13 g13
  have O16 := ok_sum F16 TN O15 k15 b15 g15
  have O17 := ok_comp F17 TN TT O15 k15 b15 g15
  have O18 := ok_parted (P := PP) (w := w) (mg := mg) (base := base) F18
  have O14 := ok_betw F14 O13 k13 b13 g13
  have O42 := ok_run (P := PP) (base := base) F42 TH
  have O44 := ok_oper F44 TH O14 k14 b14 g14 O42 k42 b42 g42
  have O43 := ok_names (P := PP) (base := base) F43 TH
  have O45 := ok_step F45 TN TH O16 k16 b16 g16 O43 k43 b43 g43 O44 k44 b44 g44
  have O46 := ok_hpart F46 O17 k17 b17 g17 O43 k43 b43 g43
  have O19 := ok_test F19 TN O18 k18 b18 g18 (by decide) O46 k46 b46
  have O47 := ok_marks (P := PP) (w := w) (mg := mg) (base := base) F47
  have O12 := ok_lines (P := PP) (w := w) (mg := mg) (base := base) F12
  have O23 := ok_targets (P := PP) (w := w) (base := base) F23 TN
  have Om0 := ok_oinit Fm0 TN TO O23 k23 b23 g23
  have Om1 := ok_stepat (P := PP) (w := w) (base := base) Fm1 TO
  have Om2 := ok_targetat (P := PP) (w := w) (base := base) Fm2 TO
  have Om3 := ok_many (P := PP) (w := w) (base := base) Fm3 TN TO
  have O24 := ok_read F24 O19 k19 b19 g19 O45 k45 b45
  have O25 := ok_outl F25 TN TO O12 k12 b12 g12 O24 k24 b24 g24 MO Om0 bm0
  have O26 := ok_ways F26 TN TO TW Om3 ⟨am3, jm3, km3⟩ bm3 Om1 ⟨am1, jm1, km1⟩ bm1 Om2 ⟨am2, jm2, km2⟩ bm2
  have O27 := ok_above F27 TN TO Om1 ⟨am1, jm1, km1⟩ bm1 O47 k47 b47
  have O28 := ok_refuse (w := w) (base := base) F28 TN TR
  have O11 := ok_among (P := PP) (w := w) (base := base) F11 TN
  have Om4 := ok_hinit Fm4 TN TH TK O11 k11 b11 g11 O25 k25 b25 r25 g25 g45 g46 g47 O26 k26 b26 g26 O27 k27 b27 g27 O28 k28 b28 g28
  have O25B := ok_outlBad F25 TN TL O12 k12 b12 g12 O24 k24 b24 g24
  have Om4B := ok_hinitBad Fm4 TN TK O11 k11 b11 g11 O25B k25 b25 r25 g25 g45 g46
  have O50 := ok_bag (P := PP) (w := w) (base := base) F50 TB
  have O51 := ok_draw (P := PP) (w := w) (K := K) (base := base) F51 TB
  have O52 := ok_kinds (P := PP) (w := w) (mg := mg) (base := base) F52
  have O53 := ok_goal (P := PP) (w := w) (mg := mg) (base := base) F53
  have O54 := ok_lnames F54 O53 k53 b53 g53
  have O55 := ok_lnum (P := PP) (w := w) (base := base) F55 TB
  have O56 := ok_lrun (P := PP) (w := w) (base := base) F56 TB
  have O57 := ok_lsum F57 TB O54 k54 b54 g54 O55 k55 b55 g55
  have O58 := ok_lpart F58 TB O54 k54 b54 g54 O55 k55 b55 g55
  have O59 := ok_lline F59 TB O58 k58 b58 g58 O57 k57 b57 g57 O55 k55 b55 g55 O56 k56 b56 g56 O53 k53 b53 g53
  have O60 := ok_dnum F60 TB TN.str O51 k51 b51 g51
  have O61 := ok_dline F61 TB TN.str O51 k51 b51 g51 O60 k60 b60 g60
  have O62 := ok_spoil F62 TB O51 k51 b51 g51
  have O63 := ok_told F63 MH Om4 Om4B bm4 (PySem.W.mg_of X G h_g) TL.g (PySem.W.mg_of X G e_a) f_xm ⟨f_ga, f_gg, f_exC, f_hd⟩ f_n1
  exact ok_law F64 TB O50 k50 b50 g50 O51 k51 b51 g51 O52 k52 b52 g52 O61 k61 b61 g61 O62 k62 b62 g62 O59 k59 b59 g59 O63 k63 b63 g63
theorem walk {l : PySem.W.OpenLaw} {q : Program} {loose : List Str} {XP : (Str → Option Value) → Heap → Prop} {YP : World → Heap → Prop} {d : DefRec} {K : Params → PySem.W.Frag} (hn : l.most = some 63) (hdf : d.params.defaults = [])
    (hY : ∀ (w : World) (h : Heap), YP w h → (K w.params).In h)
    (F : ∀ (w : World) (mg : Str → Option Value) (fa : Addr) (h : Heap), (K w.params).In h → h.Ns mainGlobals mg → mg d.name = some (.ref fa) →
      ∃ fd : FuncData, (∀ (s : Shared) (u : Value), BindsTo s fd ⟨[u], []⟩ [("_law_script", u)]) ∧ ∀ base : Heap, (K w.params).In base → base.Ns mainGlobals mg → FnOk l.prog w (K w.params) mg base CX0 11 fa fd ["_law_script"] (spLaw (K w.params))) :
    PySem.W.WalkO q loose XP YP l.row.toRowW d [] (fun f vs => PySem.call f vs) :=
  L2.walk_of (n := 63) (k := 11) (x := "_law_script") (CX := fun _ => CX0) (sp := fun w => spLaw (K w.params)) hn (by decide) hdf ⟨rfl, by decide, by decide⟩ hY F (fun _ _ a ns hl _ hS => ⟨a, ns, rfl, hS, hl, fun _ => rfl⟩) fun _ _ _ _ _ z => z
end
end K02

set_option Elab.async false
set_option linter.all false
set_option maxRecDepth 100000
open PySem PySem.W PyProof.Rows
set_option maxRecDepth 100000 in
set_option maxHeartbeats 0 in
theorem PySem.Challenge.cw_tagblocks_k02_head_lines_read_holds : PySem.Challenge.rw_tagblocks_k02_head_lines_read.Holds := by
  w_on; o_law; k_head; (case hw => w_witness2)
  k_fill
  refine K02.walk (l := PySem.Challenge.rw_tagblocks_k02_head_lines_read) rfl rfl (fun w h Y => PySem.W.kIn_of Y) ?F
  case F =>
    intro w mg fa h KX G hmg
    refine' K02.all_mk KX G hmg ?a11 ?l11 ?c11 ?k11 ?a12 ?l12 ?c12 ?k12 ?a13 ?l13 ?c13 ?k13 ?a14 ?l14 ?c14 ?k14 ?a15 ?l15 ?c15 ?k15 ?a16 ?l16 ?c16 ?k16 ?a17 ?l17 ?c17 ?k17 ?a18 ?l18 ?c18 ?k18 ?a19 ?l19 ?c19 ?k19 ?a23 ?l23 ?c23 ?k23 ?a24 ?l24 ?c24 ?k24 ?a25 ?l25 ?c25 ?k25 ?a26 ?l26 ?c26 ?k26 ?a27 ?l27 ?c27 ?k27 ?a28 ?l28 ?c28 ?k28 ?a42 ?l42 ?c42 ?k42 ?a43 ?l43 ?c43 ?k43 ?a44 ?l44 ?c44 ?k44 ?a45 ?l45 ?c45 ?k45 ?a46 ?l46 ?c46 ?k46 ?a47 ?l47 ?c47 ?k47 ?a50 ?l50 ?c50 ?k50 ?a51 ?l51 ?c51 ?k51 ?a52 ?l52 ?c52 ?k52 ?a53 ?l53 ?c53 ?k53 ?a54 ?l54 ?c54 ?k54 ?a55 ?l55 ?c55 ?k55 ?a56 ?l56 ?c56 ?k56 ?a57 ?l57 ?c57 ?k57 ?a58 ?l58 ?c58 ?k58 ?a59 ?l59 ?c59 ?k59 ?a60 ?l60 ?c60 ?k60 ?a61 ?l61 ?c61 ?k61 ?a62 ?l62 ?c62 ?k62 ?a63 ?l63 ?c63 ?k63 ?a64 ?l64 ?c64 ?k64 ?am0 ?jm0 ?lm0 ?cm0 ?km0 ?am1 ?jm1 ?lm1 ?cm1 ?km1 ?am2 ?jm2 ?lm2 ?cm2 ?km2 ?am3 ?jm3 ?lm3 ?cm3 ?km3 ?am4 ?jm4 ?lm4 ?cm4 ?km4 ?lD ?lDs ?o_g ?o_pg ?o_hd ?o_po ?o_sa ?o_mk ?o_kc ?o_nrows ?o_nsteps ?o_ntargets ?h_g ?h_pg ?h_hd ?h_po ?h_sa ?h_mk ?h_kc ?h_nkind ?h_ntext ?h_noutline ?aqC ?lqC ?vqC ?aqE ?lqE ?vqE ?aqK ?lqK ?vqK ?aqG ?lqG ?vqG ?aqS ?lqS ?vqS ?aqM ?lqM ?vqM ?aiF ?aiT ?aiP ?aiS ?aiR ?aiL ?aiI ?aiX ?aiY ?z0 ?z1 ?z2 ?z3 ?z4 ?z5 ?z6 ?z7 ?z8 ?aHA ?lHA ?wHA ?fH0 ?lH0 ?vH0 ?fH1 ?lH1 ?vH1 ?fH2 ?lH2 ?vH2 ?fH3 ?lH3 ?vH3 ?fH4 ?lH4 ?vH4 ?fH5 ?lH5 ?vH5 ?fH6 ?lH6 ?vH6 ?fH7 ?lH7 ?vH7 ?fH8 ?lH8 ?vH8 ?aTO ?lTO ?wTO ?fT0 ?fT1 ?fT2 ?fT3 ?fT4 ?fT5 ?fT6 ?fT7 ?fT8 ?e_a ?e_xL ?e_hbm ?e_sa ?e_iC ?e_tI ?e_kC ?e_exC ?e_veC ?e_meC ?e_tyC ?e_sup ?e_opq ?e_gS ?e_fn ?e_cell ?e_code ?e_hvs ?e_hfile ?e_rc ?e_n1 ?e_ga ?e_gg ?e_hd ?e_xm ?f_a ?f_xL ?f_hbm ?f_sa ?f_iC ?f_tI ?f_kC ?f_exC ?f_veC ?f_meC ?f_tyC ?f_sup ?f_opq ?f_gS ?f_fn ?f_cell ?f_code ?f_hvs ?f_hfile ?f_rc ?f_n1 ?f_ga ?f_gg ?f_hd ?f_xm
    (case o_g => k_is); (case h_g => k_is); (case a11 => k_is); (case l11 => k_is); (case c11 => k_is); (case k11 => k_is)
    (case a12 => k_is); (case l12 => k_is); (case c12 => k_is); (case k12 => k_is); (case a13 => k_is); (case l13 => k_is)
    (case c13 => k_is); (case k13 => k_is); (case a14 => k_is); (case l14 => k_is); (case c14 => k_is); (case k14 => k_is)
    (case a15 => k_is); (case l15 => k_is); (case c15 => k_is); (case k15 => k_is); (case a16 => k_is); (case l16 => k_is)
    (case c16 => k_is); (case k16 => k_is); (case a17 => k_is); (case l17 => k_is); (case c17 => k_is); (case k17 => k_is)
    (case a18 => k_is); (case l18 => k_is); (case c18 => k_is); (case k18 => k_is); (case a19 => k_is); (case l19 => k_is)
    (case c19 => k_is); (case k19 => k_is); (case a23 => k_is); (case l23 => k_is); (case c23 => k_is); (case k23 => k_is)
    (case a24 => k_is); (case l24 => k_is); (case c24 => k_is); (case k24 => k_is); (case a25 => k_is); (case l25 => k_is)
    (case c25 => k_is); (case k25 => k_is); (case a26 => k_is); (case l26 => k_is); (case c26 => k_is); (case k26 => k_is)
    (case a27 => k_is); (case l27 => k_is); (case c27 => k_is); (case k27 => k_is); (case a28 => k_is); (case l28 => k_is)
    (case c28 => k_is); (case k28 => k_is); (case a42 => k_is); (case l42 => k_is); (case c42 => k_is); (case k42 => k_is)
    (case a43 => k_is); (case l43 => k_is); (case c43 => k_is); (case k43 => k_is); (case a44 => k_is); (case l44 => k_is)
    (case c44 => k_is); (case k44 => k_is); (case a45 => k_is); (case l45 => k_is); (case c45 => k_is); (case k45 => k_is)
    (case a46 => k_is); (case l46 => k_is); (case c46 => k_is); (case k46 => k_is); (case a47 => k_is); (case l47 => k_is)
    (case c47 => k_is); (case k47 => k_is); (case a50 => k_is); (case l50 => k_is); (case c50 => k_is); (case k50 => k_is)
    (case a51 => k_is); (case l51 => k_is); (case c51 => k_is); (case k51 => k_is); (case a52 => k_is); (case l52 => k_is)
    (case c52 => k_is); (case k52 => k_is); (case a53 => k_is); (case l53 => k_is); (case c53 => k_is); (case k53 => k_is)
    (case a54 => k_is); (case l54 => k_is); (case c54 => k_is); (case k54 => k_is); (case a55 => k_is); (case l55 => k_is)
    (case c55 => k_is); (case k55 => k_is); (case a56 => k_is); (case l56 => k_is); (case c56 => k_is); (case k56 => k_is)
    (case a57 => k_is); (case l57 => k_is); (case c57 => k_is); (case k57 => k_is); (case a58 => k_is); (case l58 => k_is)
    (case c58 => k_is); (case k58 => k_is); (case a59 => k_is); (case l59 => k_is); (case c59 => k_is); (case k59 => k_is)
    (case a60 => k_is); (case l60 => k_is); (case c60 => k_is); (case k60 => k_is); (case a61 => k_is); (case l61 => k_is)
    (case c61 => k_is); (case k61 => k_is); (case a62 => k_is); (case l62 => k_is); (case c62 => k_is); (case k62 => k_is)
    (case a63 => k_is); (case l63 => k_is); (case c63 => k_is); (case k63 => k_is); (case a64 => k_is); (case l64 => k_is)
    (case c64 => k_is); (case k64 => k_is); (case am0 => k_is); (case jm0 => k_is); (case lm0 => k_is); (case cm0 => k_is)
    (case km0 => k_is); (case am1 => k_is); (case jm1 => k_is); (case lm1 => k_is); (case cm1 => k_is); (case km1 => k_is)
    (case am2 => k_is); (case jm2 => k_is); (case lm2 => k_is); (case cm2 => k_is); (case km2 => k_is); (case am3 => k_is)
    (case jm3 => k_is); (case lm3 => k_is); (case cm3 => k_is); (case km3 => k_is); (case am4 => k_is); (case jm4 => k_is)
    (case lm4 => k_is); (case cm4 => k_is); (case km4 => k_is); (case lD => k_is); (case lDs => rfl); (case o_pg => k_is)
    (case o_hd => k_is); (case o_po => k_is); (case o_sa => k_is); (case o_mk => k_is); (case o_kc => k_is); (case o_nrows => k_is)
    (case o_nsteps => k_is); (case o_ntargets => k_is); (case h_pg => k_is); (case h_hd => k_is); (case h_po => k_is); (case h_sa => k_is)
    (case h_mk => k_is); (case h_kc => k_is); (case h_nkind => k_is); (case h_ntext => k_is); (case h_noutline => k_is); (case aqC => k_is)
    (case lqC => k_is); (case vqC => rfl); (case aqE => k_is); (case lqE => k_is); (case vqE => rfl); (case aqK => k_is)
    (case lqK => k_is); (case vqK => rfl); (case aqG => k_is); (case lqG => k_is); (case vqG => rfl); (case aqS => k_is)
    (case lqS => k_is); (case vqS => rfl); (case aqM => k_is); (case lqM => k_is); (case vqM => rfl); (case aiF => k_is)
    (case aiT => k_is); (case aiP => k_is); (case aiS => k_is); (case aiR => k_is); (case aiL => k_is); (case aiI => k_is)
    (case aiX => k_is); (case aiY => k_is); (case z0 => k_is); (case z1 => k_is); (case z2 => k_is); (case z3 => k_is)
    (case z4 => k_is); (case z5 => k_is); (case z6 => k_is); (case z7 => k_is); (case z8 => k_is); (case aHA => k_is)
    (case lHA => k_is); (case wHA => exact He.keysLit_of (ks := K02.kindsL) rfl); (case fH0 => k_is); (case lH0 => k_is); (case vH0 => decide +kernel); (case fH1 => k_is)
    (case lH1 => k_is); (case vH1 => decide +kernel); (case fH2 => k_is); (case lH2 => k_is); (case vH2 => decide +kernel); (case fH3 => k_is)
    (case lH3 => k_is); (case vH3 => decide +kernel); (case fH4 => k_is); (case lH4 => k_is); (case vH4 => decide +kernel); (case fH5 => k_is)
    (case lH5 => k_is); (case vH5 => decide +kernel); (case fH6 => k_is); (case lH6 => k_is); (case vH6 => decide +kernel); (case fH7 => k_is)
    (case lH7 => k_is); (case vH7 => decide +kernel); (case fH8 => k_is); (case lH8 => k_is); (case vH8 => decide +kernel); (case aTO => k_is)
    (case lTO => k_is); (case wTO => exact He.keysLit_of (ks := K02.kindsL) rfl); (case fT0 => k_is); (case fT1 => k_is); (case fT2 => k_is); (case fT3 => k_is)
    (case fT4 => k_is); (case fT5 => k_is); (case fT6 => k_is); (case fT7 => k_is); (case fT8 => k_is); (case e_a => k_is)
    (case e_xL => k_is); (case e_hbm => decide +kernel); (case e_sa => k_is); (case e_iC => k_is); (case e_tI => k_is); (case e_kC => k_is)
    (case e_exC => k_is); (case e_veC => k_is); (case e_meC => k_is); (case e_tyC => k_is); (case e_sup => ks_is); (case e_opq => k_is)
    (case e_gS => k_is); (case e_fn => k_is); (case e_cell => k_is); (case e_code => k_is); (case e_hvs => rfl); (case e_hfile => decide +kernel)
    (case e_rc => k_is); (case e_n1 => k_is); (case e_ga => k_is); (case e_gg => k_is); (case e_hd => k_is); (case e_xm => kernel_rfl)
    (case f_a => k_is); (case f_xL => k_is); (case f_hbm => decide +kernel); (case f_sa => k_is); (case f_iC => k_is); (case f_tI => k_is)
    (case f_kC => k_is); (case f_exC => k_is); (case f_veC => k_is); (case f_meC => k_is); (case f_tyC => k_is); (case f_sup => ks_is)
    (case f_opq => k_is); (case f_gS => k_is); (case f_fn => k_is); (case f_cell => k_is); (case f_code => k_is); (case f_hvs => rfl)
    (case f_hfile => decide +kernel); (case f_rc => k_is); (case f_n1 => k_is); (case f_ga => k_is); (case f_gg => k_is); (case f_hd => k_is)
    (case f_xm => kernel_rfl)
