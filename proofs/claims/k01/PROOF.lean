import PyProof.Rows.All
import Wide.All
import OpenK.AllK
import Wide.FinOn
import PyProof.EqAt
import PyProof.EqKinds
import PyProof.TupleCall
import KE.KFromBytes
import KE.KIsAll
import KE.KTryMore
import HandS.ForMost
import HandS.Exc
import HandS.ExcOwn
import HandS.ExcInit
import HandS.ExcIs
import HandS.ExcField
import HandS.Defaults
import HandS.HeadEnd
import HandS.HeadHook1
import HandS.HeadHook2
import HandS.Wide
import HandS.WideBits
import HandS.IsInst
import HandS.Style
import HandS.ExcValue
import HandS.MakeKw
import KE.KStateDown
import HandS.Head0
import HandS.Head1
import HandS.Head2
import PySem.Challenge.RW_pairtells_k01_errors_made
set_option Elab.async false
set_option linter.all false
set_option maxRecDepth 100000
set_option maxHeartbeats 2000000
namespace Yt
open PySem PySem.Spec PyProof.Rows L2
/-! ### promises that know of no guard on the way: repr may be asked -/
section
variable {P : Program} {w : World} {K : PySem.W.Frag} {mg : Str → Option Value} {base : Heap}
structure FnOkG (P : Program) (w : World) (K : PySem.W.Frag) (mg : Str → Option Value) (base : Heap) (CX : CXT) (k : Nat) (f : Addr) (fd : FuncData) (ps : List Str) (sp : Sp) : Prop where
  len : ∀ vs H Q E, sp vs H Q E → vs.length = ps.length
  run : ∀ (A : Around) (outer : List Env) (s : Shared) (H : Hp) (args : Args) (us : List Value) (vs : List V) (Q : VK) (E : XK), A.guards = some [] → Room k A → Env0 P w K mg base A outer s H → BindsTo s fd args (ps.zip us) → Vals vs us → sp vs H Q E →
    codeAny (model P w) A (.call (.ref f) args) (CR CX outer P w H s Q E) s
theorem fn_ofG {CX : CXT} {k : Nat} {f : Addr} {name qual : Str} {params : Arguments} {body : List Stmt} {scope : Scope} {dV kV doc pm cdv ct oc : Value} {an od : Option Addr}
    {osl : Array (Option Value)} {N ps : List Str} {sp : Sp} (lk : K.lookup f = some ⟨oc, od, .func (PySem.W.fnOf name qual params body scope dV kV doc pm an cdv ct), osl⟩) (hcd : PySem.W.codeIn K cdv qual = true) (S : FnScope N ps scope)
    (len : ∀ vs H Q E, sp vs H Q E → vs.length = ps.length)
    (hbody : ∀ (A : Around) (outer : List Env) (s : Shared) (H : Hp) (vs : List V) (Q : VK) (E : XK), (A.deeper (envOfC qual scope s.heap.objs.size f cdv)).guards = some [] → Room k (A.deeper (envOfC qual scope s.heap.objs.size f cdv)) → sp vs H Q E →
      ∃ t, PSs (cxOf CX P w K mg base N qual scope f cdv A outer s H E) body t ∧ t { nx := fun _ H' => Q .non H', rt := Q } (start N vs) H) :
    FnOkG P w K mg base CX (k + 1) f (PySem.W.fnOf name qual params body scope dV kV doc pm an cdv ct) ps sp := by
  refine ⟨len, fun A outer s H args us vs Q E hgd hr e0 hb r hsp => ?_⟩
  have hl := len _ _ _ _ hsp
  have KX : K.In s.heap := e0.mod.kin.keeps fun b o e => (e0.bs b o e).1
  have lim : s.heap.NoLimit := e0.mod.nolimit.keeps fun b o e => (e0.bs b o e).1
  have hkind : ∀ y ∈ ps.zip us, scope.names.lookup y.1 = some .local ∨ (scope.names.lookup y.1 = some .cell ∧ ((cellsFrom (s.heap.objs.size + 1) scope.names []).lookup y.1).isSome = true) := fun ⟨n, v⟩ hy => by
    rcases S.par n (List.of_mem_zip hy).1 with q | q
    · exact .inl q
    · exact .inr ⟨q, PySem.W.cellsFrom_some _ _ _ (.inl q)⟩
  refine codeAny_call_function hr.depth (KX _ _ lk) rfl S.co S.gen rfl (PySem.W.codeRec_of KX hcd) (hb _ _ _ _ ?_)
  refine wpAny_newFunctionEnv_cells S.kind hkind fun env he s1 x => ?_
  subst he
  refine ⟨lim.keeps x.toInCall.keep, codeAny_func ?_⟩
  obtain ⟨t, ht, hq⟩ := hbody A outer s H vs Q E hgd (hr.deeper _) hsp
  have I : Inv (cxOf CX P w K mg base N qual scope f cdv A outer s H E) [] (start N vs) H s1 := inv_start S hr.hd e0 hl r x
  refine wpAny_mono (ht.run [] s1 (start N vs) H _ I hq) (fun fl s' hs => ?_) fun e s' hs => hs
  have fin : ∀ {σ' : L2.St} {H' : Hp} {v : V} {u : Value}, Inv (cxOf CX P w K mg base N qual scope f cdv A outer s H E) [] σ' H' s' → RelV v u → Q v H' → CE outer P w H s Q u s' :=
    fun {σ' H' v u} J rv q => ⟨v, H', J.os, J.bare, J.base, J.hok, rv, q⟩
  cases fl with
  | ret u =>
    obtain ⟨v, σ', H', J, rv, q⟩ := hs
    exact fin J rv q
  | next =>
    obtain ⟨σ', H', J, q⟩ := hs
    exact fin (v := V.non) (u := Value.none) J rfl q
  | brk =>
    obtain ⟨_, _, _, q⟩ := hs
    exact False.elim q
  | cont =>
    obtain ⟨_, _, _, q⟩ := hs
    exact False.elim q
theorem okG {CX : CXT} {x qual : Str} {params : Arguments} {body : List Stmt} {scope : Scope} {dvs : List V} {kws : List (Str × V)} {f : Addr} {fd : FuncData} {N ps : List Str} {k : Nat} {sp : Sp} (F : FunD K x qual params body scope dvs kws f fd) (S : FnScope N ps scope) (len : ∀ vs H Q E, sp vs H Q E → vs.length = ps.length)
    (hbody : ∀ (cdv : Value) (A : Around) (outer : List Env) (s : Shared) (H : Hp) (vs : List V) (Q : VK) (E : XK), (A.deeper (envOfC qual scope s.heap.objs.size f cdv)).guards = some [] → Room k (A.deeper (envOfC qual scope s.heap.objs.size f cdv)) → sp vs H Q E →
      ∃ t, PSs (cxOf CX P w K mg base N qual scope f cdv A outer s H E) body t ∧ t { nx := fun _ H' => Q .non H', rt := Q } (start N vs) H) : FnOkG P w K mg base CX (k + 1) f fd ps sp := by
  obtain ⟨oc, od, dV, kV, doc, pm, an, cdv, ct, osl, rfl, lk, hcd, _, _⟩ := F.ex
  exact fn_ofG lk hcd S len fun A outer s H vs Q E hg hr hsp => hbody cdv A outer s H vs Q E hg hr hsp
end
section
variable {X : Cx} {CX : CXT} {k : Nat} {f C : Addr} {fd : FuncData} {ps : List Str} {sp : Sp} {dvs : List V} {ds : List Value} {E : XK} {x m : Str} {p pos apos : Pos} {e o : Expr} {es : List Expr} {ta : TE} {t : TA}
theorem run_fnG {pins : List (Addr × Obj)} {σ : L2.St} {H : Hp} {s : Shared} {Q : VK} {us : List Value} {vs : List V} (F : FnOkG X.prog X.w X.K X.mg X.base CX k f fd ps sp) (hgd : X.A.guards = some []) (hr : Room k X.A) (hb : Binds X.K fd ps ds) (hd : Vals dvs ds) (hx : Passes CX X E)
    (I : Inv X pins σ H s) (r : Vals vs us) (h : sp (vs ++ dvs) H Q E) : wpAny (model X.prog X.w) X.A (call (.ref f) us) (EP X pins σ Q) X.xe s := by
  have r2 : Vals (vs ++ dvs) (us ++ ds) := r.append hd
  have hl : (us ++ ds).length = ps.length := by rw [← r2.length]; exact F.len _ _ _ _ h
  refine wpAny_call (codeAny_mono (F.run X.A X.stack s H ⟨us, []⟩ (us ++ ds) (vs ++ dvs) Q E hgd hr I.env0 (hb s us I.kIn hl) r2 h) fun r s' hq => ?_)
  cases r with
  | error e => exact hx pins σ H s e s' I hq
  | ok fl =>
    cases fl with
    | ret u => exact I.after hq
    | next => exact False.elim hq
    | brk => exact False.elim hq
    | cont => exact False.elim hq
theorem pe_callG (F : FnOkG X.prog X.w X.K X.mg X.base CX k f fd ps sp) (hgd : X.A.guards = some []) (hr : Room k X.A) (hg : Gl X x) (hm : X.mg x = some (.ref f)) (hk : PySem.W.keepIn X.K (.ref f) = true) (hb : Binds X.K fd ps ds) (hd : Vals dvs ds) (hx : Passes CX X E)
    (ha : PA X (e :: es) t) (hdb : (x == ("__debug__" : Str)) = false := by decide) (he : starEach (e :: es) X.env = (false, eval e X.env) :: starEach es X.env := by rfl) (hpl : (backTo pos (starEach es X.env)).any (·.1) = false := by rfl) :
    PE X (.Call (.Name x p) (e :: es) [] pos) (tCall sp dvs E t) := by
  refine ⟨fun pins s σ H Q I h => ?_⟩
  refine wpAny_Call_Name_kw (ld_glob I hg hm ?_ hdb)
  refine PySem.W.callWith_K (h₀ := X.base) I.ok.mod.kin hk (thn (ha.run pos pins s σ H _ I h) fun us s1 ⟨vs, H1, I1, r, q⟩ => ⟨I1.kIn, ?_⟩) he hpl
  exact run_fnG F hgd hr hb hd hx I1 r q
end
/-! ### powers of great numbers -/
def CPowW (i j : Int) : Prop := 0 ≤ j ∧ (Builtin.Int.intBits i : Int) * j ≤ 2 ^ 27
theorem op_powW {X : Cx} : OpR X (binaryOp .Pow) (rI CPowW fun i j => .int (i ^ j.toNat)) := opI fun _ _ _ _ _ _ _ hc q => pow_int hc.1 hc.2 q
theorem dict_sz1 : ∀ ds : List (PyData × PyData), sizeOf (ds.map (·.1)) < 1 + sizeOf ds
  | [] => by simp
  | (k, v) :: r => by
    have := dict_sz1 r
    simp only [List.map_cons, List.cons.sizeOf_spec, Prod.mk.sizeOf_spec]
    omega
theorem dict_sz2 : ∀ ds : List (PyData × PyData), sizeOf (ds.map (·.2)) < 1 + sizeOf ds
  | [] => by simp
  | (k, v) :: r => by
    have := dict_sz2 r
    simp only [List.map_cons, List.cons.sizeOf_spec, Prod.mk.sizeOf_spec]
    omega
/-! ### data, dicts too: what repr says -/
mutual
inductive Rp (H : Hp) : V → PyData → Prop
  | non : Rp H .non .none
  | bl (b : Bool) : Rp H (.bl b) (.bool b)
  | int (i : Int) : Rp H (.int i) (.int i)
  | str (x : Str) : Rp H (.str x) (.str x)
  | lst {a : Addr} {xs : List V} {ds : List PyData} : Rd H a (.lst xs) → RpAll H xs ds → Rp H (.ref a) (.list ds)
  | tup {a : Addr} {xs : List V} {ds : List PyData} : Rd H a (.tup xs) → RpAll H xs ds → Rp H (.ref a) (.tuple ds)
  | dct {a : Addr} {kvs : List (Key × V)} {ds : List (PyData × PyData)} : H a = some (.dK kvs) → RpAll H (kvs.map fun p => kV p.1) (ds.map (·.1)) → RpAll H (kvs.map (·.2)) (ds.map (·.2)) → Rp H (.ref a) (.dict ds)
inductive RpAll (H : Hp) : List V → List PyData → Prop
  | nil : RpAll H [] []
  | cons {v : V} {vs : List V} {d : PyData} {ds : List PyData} : Rp H v d → RpAll H vs ds → RpAll H (v :: vs) (d :: ds)
end
theorem RpAll.two {H : Hp} {x y : V} {d e : PyData} (h : Rp H x d) (g : Rp H y e) : RpAll H [x, y] [d, e] := .cons h (.cons g .nil)
theorem rd_same {H H' : Hp} {a : Addr} {o : HO} (s : Same H H') (h : Rd H a o) : Rd H' a o := by
  rcases h with h | ⟨u, h⟩
  · exact .inl (s _ _ h)
  · exact .inr ⟨u, s _ _ h⟩
mutual
theorem Rp.same {H H' : Hp} (s : Same H H') : ∀ {v : V} {d : PyData}, Rp H v d → Rp H' v d
  | _, _, .non => .non
  | _, _, .bl b => .bl b
  | _, _, .int i => .int i
  | _, _, .str x => .str x
  | _, _, .lst h g => .lst (rd_same s h) (RpAll.same s g)
  | _, _, .tup h g => .tup (rd_same s h) (RpAll.same s g)
  | _, _, .dct h g k => .dct (s _ _ h) (RpAll.same s g) (RpAll.same s k)
theorem RpAll.same {H H' : Hp} (s : Same H H') : ∀ {v : List V} {d : List PyData}, RpAll H v d → RpAll H' v d
  | _, _, .nil => .nil
  | _, _, .cons h g => .cons (Rp.same s h) (RpAll.same s g)
end
theorem pairs_key {P : Program} {w : World} {kvs : List (Key × V)} {vs : List (Key × Value)} (r : KV kvs vs) : ∀ {es : List DictEntry}, Pairs (mixKind P w) es vs → Vals (kvs.map fun p => kV p.1) (es.map (·.key)) ∧ Vals (kvs.map (·.2)) (es.map (·.val)) := by
  induction r with
  | nil =>
    intro es p
    cases p
    exact ⟨.nil, .nil⟩
  | cons h t ih =>
    intro es p
    cases p with
    | cons hk hv hr =>
      obtain ⟨i1, i2⟩ := ih hr
      obtain ⟨e1, e2⟩ := h
      refine ⟨.cons ?_ i1, .cons ?_ i2⟩
      · dsimp only
        rw [mixKind_is] at hk
        rw [← e1] at hk
        rcases keyIs_shape hk with ⟨i, t, q1, q2⟩ | ⟨x, t, q1, q2⟩
        · rw [q1, q2]
          exact ⟨t, rfl⟩
        · rw [q1, q2]
          exact ⟨t, rfl⟩
      · dsimp only
        rw [hv]
        exact e2
section
variable {X : Cx} {pins : List (Addr × Obj)} {σ : L2.St} {H : Hp} {s : Shared}
theorem not_sys (I : Inv X pins σ H s) (hS : ∃ o, X.K.lookup sysModules = some o) {a : Addr} {o : HO} (h : H a = some o) : a ≠ sysModules := fun z => by
  obtain ⟨u, hu⟩ := hS
  have q := (I.bs _ _ (I.ok.mod.kin _ _ hu)).2
  rw [z, q] at h
  cases h
theorem rd_some {H : Hp} {a : Addr} {o : HO} (h : Rd H a o) : ∃ u, H a = some u := by
  rcases h with h | ⟨u, h⟩
  · exact ⟨_, h⟩
  · exact ⟨_, h⟩
mutual
theorem Rp.reads (I : Inv X pins σ H s) (hS : ∃ o, X.K.lookup sysModules = some o) : ∀ (d : PyData) (v : V) (u : Value), Rp H v d → RelV v u → ∃ as, Reads s.heap u d as ∧ sysModules ∉ as
  | .none, _, _, h, r => by
    cases h
    cases r
    exact ⟨_, Reads.none, fun z => nomatch z⟩
  | .bool b, _, _, h, r => by
    cases h
    cases r
    exact ⟨_, Reads.bool b, fun z => nomatch z⟩
  | .int i, _, _, h, r => by
    cases h
    obtain ⟨t, rfl⟩ := r
    exact ⟨_, Reads.int i t, fun z => nomatch z⟩
  | .str x, _, _, h, r => by
    cases h
    obtain ⟨t, rfl⟩ := r
    exact ⟨_, Reads.str x t, fun z => nomatch z⟩
  | .list ds, _, _, h, r => by
    cases h with
    | lst hs ha =>
      cases r
      obtain ⟨its, rv, ⟨o, n, ho, hc, _, hd⟩, _⟩ := I.list (.inl hs)
      obtain ⟨as, hr, hn⟩ := RpAll.reads I hS ds _ its ha rv
      obtain ⟨_, hz⟩ := rd_some hs
      exact ⟨_, Reads.list ho hc hd hr, fun z => (List.mem_cons.mp z).elim (fun e => not_sys I hS hz e.symm) hn⟩
  | .tuple ds, _, _, h, r => by
    cases h with
    | tup hs ha =>
      cases r
      obtain ⟨its, rv, ⟨o, ho, hc, n, hd⟩, _⟩ := I.tuple (.inl hs)
      obtain ⟨as, hr, hn⟩ := RpAll.reads I hS ds _ its ha rv
      exact ⟨_, Reads.tuple ho hc hd hr, hn⟩
  | .dict ds, _, _, h, r => by
    cases h with
    | dct hs hk hv =>
      cases r
      obtain ⟨_, hsy, vs, rkv, o, es, ep, ho, hx, hd, _, hp, _⟩ := dk_of I.hok hs
      obtain ⟨r1, r2⟩ := pairs_key rkv hp
      obtain ⟨as, h1, n1⟩ := RpAll.reads I hS (ds.map (·.1)) _ _ hk r1
      obtain ⟨bs, h2, n2⟩ := RpAll.reads I hS (ds.map (·.2)) _ _ hv r2
      refine ⟨_, Reads.dict ho hx.1 hd h1 h2, fun z => ?_⟩
      rcases List.mem_append.mp z with z | z
      · rcases List.mem_cons.mp z with z | z
        · exact not_sys I hS hs z.symm
        · exact n1 z
      · exact n2 z
  termination_by d => sizeOf d
  decreasing_by
    all_goals simp_wf
    all_goals first | omega | exact dict_sz1 _ | exact dict_sz2 _
theorem RpAll.reads (I : Inv X pins σ H s) (hS : ∃ o, X.K.lookup sysModules = some o) : ∀ (ds : List PyData) (vs : List V) (us : List Value), RpAll H vs ds → Vals vs us → ∃ as, ReadsAll s.heap us ds as ∧ sysModules ∉ as
  | [], _, _, h, r => by
    cases h
    cases r
    exact ⟨_, ReadsAll.nil, fun z => nomatch z⟩
  | d :: ds, _, _, h, r => by
    cases h with
    | cons h1 h2 =>
      cases r with
      | cons r1 r2 =>
        obtain ⟨as, q1, n1⟩ := Rp.reads I hS d _ _ h1 r1
        obtain ⟨bs, q2, n2⟩ := RpAll.reads I hS ds _ _ h2 r2
        exact ⟨_, ReadsAll.cons q1 q2, fun z => (List.mem_append.mp z).elim n1 n2⟩
  termination_by ds => sizeOf ds
  decreasing_by
    all_goals simp_wf
    all_goals omega
end
end

section
variable {X : Cx}
/-- repr of data -/
def rRepr : List V → Hp → VK → Prop := fun xs H Q => ∃ x d, xs = [x] ∧ Rp H x d ∧ d.showable = true ∧ d.shown.length ≤ sizeLine ∧ d.depth ≤ 60 ∧ Q (.str d.shown) H
theorem call_repr {k : Nat} (hr : Room k X.A) (hgd : X.A.guards = some []) (hS : ∃ o, X.K.lookup sysModules = some o) : CallR X (.builtin "repr") rRepr := by
  intro pins s σ H xs us Q I r h
  obtain ⟨x, d, rfl, hd, hs, hz, hdp, q⟩ := h
  obtain ⟨u, rfl, ru⟩ := vals1 r
  have hu := hr.units
  have done : ∀ h' u tk, (∀ b o, s.heap.get? b = some o → h'.get? b = some o) → EP X pins σ Q (.str d.shown u) { s with heap := h', toks := tk } := fun h' u tk hk => ⟨.str d.shown, H, I.kept hk, ⟨u, rfl⟩, q⟩
  have big : ∀ a, u = .ref a → wpAny (model X.prog X.w) X.A (call (.builtin "repr") [u]) (EP X pins σ Q) X.xe s := fun a e => by
    obtain ⟨as, rd, hn⟩ := Rp.reads I hS d x u hd ru
    subst e
    exact repr_of_reads' rd hs (fun _ => hn) hgd (by omega) (fun _ _ z => z) (fun h' u tk hk => done h' u tk hk) hz
  cases hd with
  | non =>
    obtain rfl : u = Value.none := ru
    have e : (PyData.none).shown = ("None" : Str) := PyData.shown_none
    rw [e] at q
    exact PySem.P.repr_of_none ⟨.str _, H, I.tok _, ⟨_, rfl⟩, q⟩
  | bl b =>
    obtain rfl : u = Value.bool b := ru
    rw [PyData.shown_bool] at q
    exact PySem.P.repr_of_bool ⟨.str _, H, I.tok _, ⟨_, rfl⟩, q⟩
  | int i =>
    obtain ⟨t, rfl⟩ := ru
    rw [PyData.shown_int] at q
    exact PySem.P.repr_of_int (by simpa [PyData.showable] using hs) ⟨.str _, H, I.tok _, ⟨_, rfl⟩, q⟩
  | str y =>
    obtain ⟨t, rfl⟩ := ru
    rw [PyData.shown_str] at q hz
    exact PySem.P.repr_of_str ⟨.str _, H, I.tok _, ⟨_, rfl⟩, q⟩ hz
  | lst _ _ => exact big _ ru
  | tup _ _ => exact big _ ru
  | dct _ _ _ => exact big _ ru
end
end Yt

set_option Elab.async false
set_option linter.all false
set_option maxRecDepth 100000
set_option maxHeartbeats 2000000
namespace PySem
namespace YtE
open PySem PySem.W PySem.Calls PyProof.Rows PySem.HandSPX
/-! ### type.__call__ on an own exception class with keywords: the keywords go to __init__ alone -/
section
variable {M : Model} {A : Around} {E : Value → Shared → Prop} {h : Heap} {g : Array GenState} {d : Drawn} {t : Nat} {os : OsState}
variable {nm q : Str} {C N : Addr} {bs bm bmB : List Value} {hdct : Bool} {sn : List Str} {sub : List Value} {ab : Bool} {col : Option Bool} {dd : Option Addr} {k0 k1 k2 k3 k5 : Option Value} {B newId initId : String}
theorem check_new_ownK (F : ExcBaseFacts B newId initId bmB) (hT : ∀ X : String, bm.contains (.type X) = bmB.contains (.type X)) {rest : List Value} {kw : List (Str × Value)} {Q : Unit → Shared → Prop}
    (hC : h.get? C = some (excClassObj nm q C N bs bm hdct sn sub ab col dd k0 k1 k2 k3 k5 newId)) (hq : Q () ⟨h, g, d, t, os⟩) : wpAny M A (checkBuiltinCall newId ⟨.ref C :: rest, kw⟩) Q E ⟨h, g, d, t, os⟩ := by
  have hcont : (Value.ref C :: bm).contains (.type B) = true := by rw [List.contains_cons, hT, F.hasB, Bool.or_true]
  have hstar := F.noStar
  simp only [checkBuiltinCall, F.newKind, F.newSplit, F.newRow]
  repeat (first | refine wpAny_loadPart_at hC ?_ | (refine wpAny_isSubtype_exc hC ?_; rw [hcont]) | refine wpAny_staticBase_exc hC ?_ | refine wpAny_madeBy_exc hC ?_ | simp only [bne_self_eq_false, Bool.false_eq_true, if_false] | wp_step)
  exact hq
end
section
variable {prog : Program} {w : World} {A : Around} {E : Value → Shared → Prop} {R : Result → Shared → Prop} {h : Heap} {g : Array GenState} {d : Drawn} {t : Nat} {os : OsState}
variable {nm q : Str} {C N : Addr} {bs bm bmB : List Value} {hdct : Bool} {sn : List Str} {sub : List Value} {ab : Bool} {col : Option Bool} {dd : Option Addr} {k0 k1 k2 k3 k5 : Option Value} {B newId initId : String}
theorem new_ownK (F : ExcBaseFacts B newId initId bmB) (hT : ∀ X : String, bm.contains (.type X) = bmB.contains (.type X)) {rest : List Value} {kw : List (Str × Value)}
    (hC : h.get? C = some (excClassObj nm q C N bs bm hdct sn sub ab col dd k0 k1 k2 k3 k5 newId))
    (hq : R (.ok (.ret (.ref (h.objs.size + 1)))) ⟨(h.push { cls := .type "tuple", data := .seq rest.toArray }).push
      { cls := .ref C, data := .fields #[.ref h.objs.size, .none, .none, .none, .bool false, .none] }, g, d, t, os⟩) (hrest : rest.length ≤ sizeLine) :
    codeAny (model prog w) A (.builtin newId ⟨.ref C :: rest, kw⟩) R ⟨h, g, d, t, os⟩ := by
  have hends := F.ends
  have hcB : (Value.ref C :: bm).contains (.type B) = true := by rw [List.contains_cons, hT, F.hasB, Bool.or_true]
  have hcA : (Value.ref C :: bm).contains (.type "AttributeError") = false := by rw [List.contains_cons, hT, F.noAttr]; rfl
  have hcN : (Value.ref C :: bm).contains (.type "NameError") = false := by rw [List.contains_cons, hT, F.noName]; rfl
  refine codeAny_builtinAt F.entry ?_
  unfold Builtin.«BaseException.__new__»
  refine PySem.wpAt_bind ?_
  show PySem.wpAt _ _ _ (stack >>= _) _ _ _
  refine PySem.wpAt_bind (PySem.wpAt_stack fun p below => PySem.wpAt_of_wpAny ?_)
  wp_walk
  refine PySem.wpAt_of_wpAny ?_
  rw [F.owner]
  repeat (first | with_reducible refine wpAny_madeHere_exc F.canon hC ?_ | with_reducible refine wpAny_loadPart_at hC ?_ | (with_reducible refine wpAny_isSubtype_exc hC ?_; first | rw [hcB] | rw [hcA] | rw [hcN]) | wp_step)
  show R _ _
  rw [Heap.size_push]
  exact hq
theorem type_call_ownK (F : ExcBaseFacts B newId initId bmB) (hT : ∀ X : String, bm.contains (.type X) = bmB.contains (.type X)) {rest : List Value} {kw : List (Str × Value)} {fI : Addr} {Q : Fin → Shared → Prop}
    (hC : h.get? C = some (excClassObj nm q C N bs bm hdct sn sub ab col dd k0 k1 k2 k3 k5 newId))
    (hi : W.Looks (model prog w) h (typeLookup (.ref C) "__init__") (some (.ref fI))) (hb : ∀ self, W.Looks (model prog w) h (bindSpecial (.ref fI) self) (.ref fI, [self])) (hrest : rest.length ≤ sizeLine)
    (hq : codeAny (model prog w) A (.call (.ref fI) ⟨.ref (h.objs.size + 1) :: rest, kw⟩)
      (fun r s' => match r with | .ok (.ret v) => v = .none ∧ Q (.done (.ret (.ref (h.objs.size + 1)))) s' | .ok _ => False | .error e => E e s')
      ⟨(h.push (W.kdv_tup rest)).push (HandSPX.excO C h.objs.size), g, d, t, os⟩) :
    wpAny (model prog w) A (Builtin.«type.__call__» ⟨.ref C :: rest, kw⟩) Q E ⟨h, g, d, t, os⟩ := by
  repeat (first | with_reducible refine wpAny_loadPart_at hC ?_ | with_reducible refine wpAny_madeBy_exc hC ?_ | wp_step)
  refine codeAny_call_builtin_code (Code.quiet_builtin _ F.quiet) (check_new_ownK F hT hC ?_)
  refine new_ownK F hT hC ?_ hrest
  show wpAny _ _ _ _ _ _
  have k : ∀ b o, h.get? b = some o → ((h.push (W.kdv_tup rest)).push (HandSPX.excO C h.objs.size)).get? b = some o := fun b o e => Heap.get?_push_of_some _ (Heap.get?_push_of_some _ e)
  have hC₁ := k _ _ hC
  have hget : ((h.push (W.kdv_tup rest)).push (HandSPX.excO C h.objs.size)).get? (h.objs.size + 1) = some (HandSPX.excO C h.objs.size) := by heap_get
  have hcC : (Value.ref C :: bm).contains (.ref C) = true := by simp
  have i1 := hi.keeps k
  have b1 := (hb (.ref (h.objs.size + 1))).keeps k
  unfold isInstance
  repeat (first | with_reducible refine wpAny_loadPart_at hget ?_ | (with_reducible refine wpAny_isSubtype_exc hC₁ ?_; rw [hcC]) | wp_step)
  show wpAny _ _ (typeLookup (.ref C) _) _ _ _
  refine i1.at ?_
  refine wpAny_holding (wpAny_bind (b1.at ?_))
  refine wpAny_bind (wpAny_call (codeAny_mono hq fun r s' z => ?_))
  rcases r with e | (v | _ | _ | _) <;> first | exact z | exact z.elim | skip
  obtain ⟨rfl, z⟩ := z
  first
    | exact wpAny_pure (wpAny_pure z)
    | (wp_walk; exact z)
theorem call_ownK (F : ExcBaseFacts B newId initId bmB) (hT : ∀ X : String, bm.contains (.type X) = bmB.contains (.type X)) {rest : List Value} {kw : List (Str × Value)} {fI : Addr}
    (hC : h.get? C = some (excClassObj nm q C N bs bm hdct sn sub ab col dd k0 k1 k2 k3 k5 newId))
    (hi : W.Looks (model prog w) h (typeLookup (.ref C) "__init__") (some (.ref fI))) (hb : ∀ self, W.Looks (model prog w) h (bindSpecial (.ref fI) self) (.ref fI, [self])) (hrest : rest.length ≤ sizeLine)
    (hq : codeAny (model prog w) (A.under (.builtin "type.__call__" ⟨.ref C :: rest, kw⟩)) (.call (.ref fI) ⟨.ref (h.objs.size + 1) :: rest, kw⟩) (W.InitBack (h.objs.size + 1) R)
      ⟨(h.push (W.kdv_tup rest)).push (HandSPX.excO C h.objs.size), g, d, t, os⟩) :
    codeAny (model prog w) A (.call (.ref C) ⟨rest, kw⟩) R ⟨h, g, d, t, os⟩ := by
  have f1 := tc_lookup
  have f2 := tc_bind (.ref C)
  have hTy : (⟨h, g, d, t, os⟩ : Shared).TypeIs (.ref C) "type" := ⟨_, hC, rfl⟩
  refine codeAny_of_tree ?_
  show wpAny _ _ (callAny (.ref C) _) _ _ _
  repeat (any_goals (first | assumption | with_reducible refine wpAny_loadPart_at hC ?_ | wp_step))
  refine ⟨rfl, ?_⟩
  refine codeAny_call_builtin_at (Code.quiet_builtin _ (by decide +kernel)) entry_typeCall (wpAny_check_type_call_sub hC (type_call_ownK F hT hC hi hb hrest ?_))
  refine codeAny_mono hq fun r s' z => ?_
  rcases r with e | (v | _ | _ | _) <;> exact z
end
end YtE
end PySem

set_option Elab.async false
set_option linter.all false
set_option maxRecDepth 100000
set_option maxHeartbeats 2000000
namespace Yt
open PySem PySem.Spec PyProof.Rows L2
/-- at e an error of the class at C, its field value holds v -/
def ErrAt (H : Hp) (e C : Addr) (v : V) : Prop := ∃ d, H e = some (exo e C (some d)) ∧ H d = some (exd d [(("value" : Str), v)])
theorem ErrAt.same {H H' : Hp} {e C : Addr} {v : V} (s : Same H H') (h : ErrAt H e C v) : ErrAt H' e C v := by
  obtain ⟨d, h1, h2⟩ := h
  exact ⟨d, s _ _ h1, s _ _ h2⟩
/-- what the written part says of such a class, its __init__ at fI -/
structure ErrC (K : PySem.W.Frag) (C fI : Addr) : Prop where
  oex : OexC K C
  iC : PySem.W.findIn K (.ref C) "__init__" = some (some (.ref fI))
  tI : PySem.W.typeIn K (.ref fI) = some (.type "function")
  no : PySem.W.findIn K (.ref C) "value" = some none
  ec : ExcC K C
/-- __init__(self, value): self.value = value -/
def spErr (K : PySem.W.Frag) : Sp := fun vs H Q _ => ∃ (a C : Addr) (v : V), vs = [.ref a, v] ∧ H a = some (exo a C none) ∧ OexC K C ∧ PySem.W.findIn K (.ref C) "value" = some none ∧
  ∀ dx, H dx = none → dx ≠ a → Q .non (upd (upd H dx (exd dx [(("value" : Str), v)])) a (exo a C (some dx)))
section
variable {X : Cx} {pins : List (Addr × Obj)} {σ : L2.St} {H : Hp} {s : Shared} {C fI : Addr} {fd : FuncData} {k : Nat}
theorem run_err {Q : VK} {us : List Value} {kw : List (Str × Value)} {v : V} {v' : Value} (T : ErrC X.K C fI) (F1 : FnOk X.prog X.w X.K X.mg X.base CX0 k fI fd ["self", "value"] (spErr X.K)) (hr : Room (k + 1) X.A) (I : Inv X pins σ H s) (rv : RelV v v') (hus : us.length ≤ sizeLine)
    (hb : ∀ (s : Shared) (self : Value), X.K.In s.heap → BindsTo s fd ⟨self :: us, kw⟩ ((["self", "value"] : List Str).zip [self, v']))
    (q : ∀ e H2, H e = none → Same H H2 → ErrAt H2 e C v → Q (.ref e) H2) :
    wpAny (model X.prog X.w) X.A (call (.ref C) us kw) (EP X pins σ Q) X.xe s := by
  obtain ⟨nm, qn, N, bs, bm, sn, sub, ab, col, dd, k0, k1, k2, k3, k5, hC, hbm⟩ := T.oex.cls
  obtain ⟨hp, g, dr, tk, os⟩ := s
  have hsz : hp.objs.size ≤ hp.objs.size + 1 := Nat.le_succ _
  have hn : H (hp.objs.size + 1) = none := I.hok.fresh hsz
  have kk : ∀ b o, hp.get? b = some o → ((hp.push (PySem.W.kdv_tup us)).push (PySem.HandSPX.excO C hp.objs.size)).get? b = some o := fun b o e => Heap.get?_push_of_some _ (Heap.get?_push_of_some _ e)
  have hget : ((hp.push (PySem.W.kdv_tup us)).push (PySem.HandSPX.excO C hp.objs.size)).get? (hp.objs.size + 1) = some (PySem.HandSPX.excO C hp.objs.size) := by heap_get
  have I2 : Inv X pins σ (upd H (hp.objs.size + 1) (exo (hp.objs.size + 1) C none)) ⟨(hp.push (PySem.W.kdv_tup us)).push (PySem.HandSPX.excO C hp.objs.size), g, dr, tk, os⟩ :=
    I.laid (t' := tk) (a := hp.objs.size + 1) (o := exo (hp.objs.size + 1) C none) (h' := (hp.push (PySem.W.kdv_tup us)).push (PySem.HandSPX.excO C hp.objs.size)) kk hsz (exo_ok hget)
  have r2 : Vals [V.ref (hp.objs.size + 1), v] [Value.ref (hp.objs.size + 1), v'] := .cons rfl (.cons rv .nil)
  have hq : spErr X.K [V.ref (hp.objs.size + 1), v] (upd H (hp.objs.size + 1) (exo (hp.objs.size + 1) C none))
      (fun u H2 => u = .non ∧ Q (.ref (hp.objs.size + 1)) H2) (fun _ _ _ => False) := by
    refine ⟨_, C, v, rfl, upd_same, T.oex, T.no, fun dx hd ne => ⟨rfl, ?_⟩⟩
    have hd' : H dx = none := by
      rw [upd_ne ne] at hd
      exact hd
    refine q _ _ hn (fun b o z => ?_) ⟨dx, upd_same, ?_⟩
    · rw [upd_ne (ne_of_none z hn), upd_ne (ne_of_none z hd'), upd_ne (ne_of_none z hn)]
      exact z
    · rw [upd_ne ne, upd_same]
  refine wpAny_call (PySem.YtE.call_ownK F.excBase_ValueError (fun Y => PySem.HandSPX.refsVE_contains Y bm hbm) (I.kIn _ _ hC) (PySem.W.looks_findIn I.kIn T.iC) (fun self => PySem.W.bind_fn I.kIn self T.tI) hus
    (codeAny_mono (F1.run _ X.stack _ _ ⟨Value.ref (hp.objs.size + 1) :: us, kw⟩ [Value.ref (hp.objs.size + 1), v'] _ _ (fun _ _ _ => False) (hr.make C us kw) (I2.env0.make C us kw) (hb _ _ I2.kIn) r2 hq) fun r s' hq' => ?_))
  cases r with
  | error er => exact pass0 (X := X) pins σ _ _ er s' I2 hq'
  | ok fl =>
    cases fl with
    | ret u =>
      obtain ⟨w, H', I3, rw', ew, q3⟩ := I2.after hq'
      subst ew
      exact ⟨rw', ⟨V.ref (hp.objs.size + 1), H', I3, rfl, q3⟩⟩
    | next => exact False.elim hq'
    | brk => exact False.elim hq'
    | cont => exact False.elim hq'
end
/-- C(e) as a value -/
def tErr (C : Addr) (te : TE) : TE := fun σ H Q => te σ H fun v H1 => ∀ e H2, H1 e = none → Same H1 H2 → ErrAt H2 e C v → Q (.ref e) H2
/-- C() -/
def tErr0 (C : Addr) : TE := fun _ H Q => ∀ e H2, H e = none → Same H H2 → ErrAt H2 e C .non → Q (.ref e) H2
section
variable {X : Cx} {C fI : Addr} {fd : FuncData} {k : Nat} {x : Str} {p pos kpos : Pos} {e : Expr} {te : TE} {ds : List Value}
/-- how the class's __init__ binds: given, by name, left out -/
structure ErrB (K : PySem.W.Frag) (fd : FuncData) : Prop where
  pos : ∀ (s : Shared) (self u : Value), K.In s.heap → BindsTo s fd ⟨[self, u], []⟩ ((["self", "value"] : List Str).zip [self, u])
  kwd : ∀ (s : Shared) (self u : Value), K.In s.heap → BindsTo s fd ⟨[self], [("value", u)]⟩ ((["self", "value"] : List Str).zip [self, u])
  out : ∀ (s : Shared) (self : Value), K.In s.heap → BindsTo s fd ⟨[self], []⟩ ((["self", "value"] : List Str).zip [self, .none])
theorem pe_err (T : ErrC X.K C fI) (F1 : FnOk X.prog X.w X.K X.mg X.base CX0 k fI fd ["self", "value"] (spErr X.K)) (hr : Room (k + 1) X.A) (hb : ErrB X.K fd) (hg : Gl X x) (hm : X.mg x = some (.ref C)) (he : PE X e te)
    (hs : starEach [e] X.env = (false, eval e X.env) :: starEach [] X.env := by rfl) (hdb : (x == ("__debug__" : Str)) = false := by decide) :
    PE X (.Call (.Name x p) [e] [] pos) (tErr C te) := by
  refine ⟨fun pins s σ H Q I h => ?_⟩
  refine wpAny_Call_Name_kw (ld_glob I hg hm ?_ hdb)
  refine PySem.W.callWith_K (h₀ := X.base) I.ok.mod.kin T.oex.kC ?_ hs (by rfl)
  rw [hs]
  show wpAny _ _ (spliced ((false, eval e X.env) :: backTo pos (starEach [] X.env))) _ _ s
  refine Calls.spliced_cons (thn (he.run pins s σ H _ I h) fun u s1 ⟨v, H1, I1, r1, q1⟩ => ?_)
  refine Calls.spliced_nil ⟨I1.kIn, ?_⟩
  show wpAny _ _ (call (.ref C) [u]) _ _ _
  exact run_err T F1 hr I1 r1 (by show 1 ≤ sizeLine; rw [sizeLine_eq]; omega) (fun s self X => hb.pos s self u X) q1
theorem pe_err0 (T : ErrC X.K C fI) (F1 : FnOk X.prog X.w X.K X.mg X.base CX0 k fI fd ["self", "value"] (spErr X.K)) (hr : Room (k + 1) X.A) (hb : ErrB X.K fd) (hg : Gl X x) (hm : X.mg x = some (.ref C))
    (hdb : (x == ("__debug__" : Str)) = false := by decide) : PE X (.Call (.Name x p) [] [] pos) (tErr0 C) := by
  refine ⟨fun pins s σ H Q I h => ?_⟩
  refine wpAny_Call_Name_kw (ld_glob I hg hm ?_ hdb)
  exact PySem.W.callWith_K0 I.kIn T.oex.kC (run_err (us := []) (v := .non) (v' := .none) T F1 hr I rfl (by show 0 ≤ sizeLine; omega) (fun s self X => hb.out s self X) h)
theorem pe_errK (T : ErrC X.K C fI) (F1 : FnOk X.prog X.w X.K X.mg X.base CX0 k fI fd ["self", "value"] (spErr X.K)) (hr : Room (k + 1) X.A) (hb : ErrB X.K fd) (hg : Gl X x) (hm : X.mg x = some (.ref C)) (he : PE X e te)
    (hdb : (x == ("__debug__" : Str)) = false := by decide) : PE X (.Call (.Name x p) [] [⟨some "value", e, kpos⟩] pos) (tErr C te) := by
  refine ⟨fun pins s σ H Q I h => ?_⟩
  refine wpAny_Call_Name_kw (ld_glob I hg hm ?_ hdb)
  refine PySem.W.callWith_KW0 (h₀ := X.base) I.ok.mod.kin T.oex.kC (by rfl) ?_ (by rfl)
  show wpAny _ _ (evalAll ((do let v ← eval e X.env; standAt pos; pure v) :: [])) _ _ s
  refine wpAny_evalAll_cons (wpAny_bind (thn (he.run pins s σ H _ I h) fun u s1 ⟨v, H1, I1, r1, q1⟩ => wpAny_bind (wpAny_standAt (wpAny_pure ?_))))
  refine wpAny_evalAll_nil ⟨I1.kIn, ?_⟩
  show wpAny _ _ (call (.ref C) [] [("value", u)]) _ _ _
  exact run_err T F1 hr I1 r1 (by show 0 ≤ sizeLine; omega) (fun s self X => hb.kwd s self u X) q1
end
/-- e.value -/
def tVal (K : PySem.W.Frag) (te : TE) : TE := fun σ H Q => te σ H fun x H1 => ∃ (a C fI : Addr) (v : V), x = .ref a ∧ ErrC K C fI ∧ ErrAt H1 a C v ∧ Q v H1
theorem pe_val {X : Cx} {e : Expr} {te : TE} {pos : Pos} (he : PE X e te) (hb : attributeBase e "value" X.env (eval e X.env) = eval e X.env := by rfl) : PE X (.Attribute e "value" pos) (tVal X.K te) := by
  refine ⟨fun pins s σ H Q I h => ?_⟩
  refine attr_of hb (thn (he.run pins s σ H _ I h) fun u s1 hh => ?_)
  obtain ⟨x, H1, I1, rx, a, C, fI, v, ex, T, ⟨dd, ea, ed⟩, q⟩ := hh
  subst ex
  obtain rfl : u = Value.ref a := rx
  obtain ⟨t1, ha⟩ := exo_at I1.hok ea
  obtain ⟨mA, hns, hr⟩ := exd_at I1.hok ed
  obtain ⟨od, ho, hl⟩ := lookIn_ns hns
  obtain ⟨u, hu, ru⟩ := RelO.some_of (v := v) (o := mA "value") (by
    have z := hr "value"
    have e : List.lookup ("value" : Str) [(("value" : Str), v)] = some v := by simp [List.lookup]
    rw [e] at z
    exact z)
  have J : PySem.W.InstAt s1.heap a _ C (some od) := ⟨ha, rfl, rfl, ho⟩
  exact HandSPX.exc_get I1.kIn J T.ec.hg T.ec.hk T.ec.hs (PySem.W.findObj_own T.ec.hd T.no rfl (by rw [hl, hu])) (handed_of ru) ⟨v, H1, I1.tok _, ru, q⟩
end Yt

set_option Elab.async false
set_option linter.all false
set_option maxRecDepth 100000
set_option maxHeartbeats 4000000
namespace PySem.YtE
open PySem PySem.Spec PySem.Calls PyProof.Rows PySem.W
section
variable {prog : Program} {w : World} {A : Around} {E : Value → Shared → Prop} {s : Shared} {K : Frag} {x D : Addr} {ox : Obj} {od : Option Obj}
theorem findData {C : Addr} {name : Str} {a g : Value} (hc : (clsIn K C).isSome = true) (ha : findIn K (.ref C) name = some (some a)) (hg : specialIn K a "__get__" = some (some g)) (ht : takesIn K a = some true) : findObj K C od name = some (.bind g a) := by
  obtain ⟨cd, hc⟩ := Option.isSome_iff_exists.mp hc
  unfold findObj
  rw [hc, Option.bind_some, ha, Option.bind_some]
  simp [hg, ht]
theorem class_of {Q : Option Value → Shared → Prop} (T : L2.ExcC K D) (X : K.In s.heap) (I : InstAt s.heap x ox D od) (h : Q (some (.ref D)) { s with toks := s.toks + 1 }) : wpAny (model prog w) A (getAttr? (.ref x) "__class__") Q E s := by
  have hf : findObj K D od "__class__" = some (.bind (.builtin "getset_descriptor.__get__") (.builtin "object.__class__")) := findData (by obtain ⟨cd, hc, _⟩ := any_some T.hd; rw [hc]; rfl) T.ha T.hn T.ht
  obtain ⟨hp, g, d, t, os⟩ := s
  have L0 := I.type (M := model prog w)
  have L1 := looks_findIn (M := model prog w) X T.hg
  have L2 := looks_findIn (M := model prog w) X T.hk
  have L3 := looks_find (M := model prog w) X I hf
  have sub : Looks (model prog w) hp (isInstance (.ref x) (.type "BaseException")) true := L0.andThen (looks_subIn X T.hs)
  have hx0 : (false && onTheHeap (Value.builtin "BaseException.__getattribute__")) = false := rfl
  have hx2 : (Value.builtin "BaseException.__getattribute__" == Value.builtin "object.__getattribute__") = false := by decide +kernel
  have hx1 : (onTheHeap (Value.ref D) && Value.builtin "BaseException.__getattribute__" == Value.builtin "object.__getattribute__") = false := by rw [hx2]; rfl
  unfold getAttr? getAttrBy? getAttrBy
  refine wpAny_bind (wpAny_mkText (wpAny_bind (wpAny_attempt (wpAny_holding (wpAny_bind (L0.at (wpAny_bind (L1.at ?_))))))))
  show wpAny _ _ (if (onTheHeap (Value.ref D) && Value.builtin "BaseException.__getattribute__" == Value.builtin "object.__getattribute__") = true then _ else _) _ _ _
  rw [hx1, if_neg Bool.false_ne_true]
  unfold getAttrByItsOwn hookBefore
  refine wpAny_bind ?_
  rw [if_pos (show onTheHeap (Value.ref D) = true from rfl)]
  refine L2.at ?_
  refine wpAny_bind (wpAny_attempt (wpAny_holding ?_))
  unfold callGetattribute
  rw [hx0, if_neg Bool.false_ne_true]
  unfold boundAndCalled
  rw [PySem.F.excAttr_ValueError.ga.bind (.ref x)]
  refine wpAny_bind (wpAny_pure ?_)
  show wpAny _ _ (call (.builtin "BaseException.__getattribute__") [.ref x, .str "__class__" t]) _ _ _
  refine wpAny_call (codeAny_call_builtin PySem.F.excAttr_ValueError.ga.plain PySem.F.entry_bexc_ga ?_)
  refine @check_slot (model prog w) _ _ ⟨hp, g, d, t + 1, os⟩ "BaseException.__getattribute__" "BaseException" "__getattribute__" (.ref x) [.str "__class__" t] [] _ (by decide +kernel) (by decide +kernel) sub (PySem.F.args_bexc_ga (.ref x) (.str "__class__" t)) ?_
  unfold Builtin.«object.__getattribute__»
  refine wpAny_bind (wpAny_of_eq (a := ((Value.ref x : Value), [Value.str "__class__" t])) (by first | rfl | (simp only [slotArgs]; rfl)) ?_)
  refine wpAny_bind (wpAny_pure (wpAny_bind (L0.at (wpAny_bind (L3.at ?_)))))
  show wpAny _ _ (holding [Value.builtin "object.__class__"] (call (.builtin "getset_descriptor.__get__") [.builtin "object.__class__", .ref x, .ref D]) >>= ret) _ _ _
  refine wpAny_bind (wpAny_holding (wpAny_call (class_get (s := ⟨hp, g, d, t + 1, os⟩) (ox := ox) (od := od) X I T.hm ?_)))
  refine wpAny_pure ?_
  show wpAny _ _ (handedOut (.ref D)) _ _ _
  rw [handedOut_of (v := .ref D) rfl]
  first
    | exact wpAny_pure (wpAny_pure h)
    | exact wpAny_pure h
    | exact wpAny_pure (wpAny_bind (wpAny_pure (wpAny_pure h)))
theorem kit_err (T : L2.ExcC K D) : KitX K (.ref x) (.ref D) (fun h => ∃ ox od, InstAt h x ox D od) where
  ty := fun _ _ _ ⟨_, _, I⟩ => I.type
  it := fun _ _ X _ => by
    obtain ⟨cdD, hcD, _⟩ := any_some T.hd
    unfold clsIn at hcD
    split at hcD
    · rename_i c' d' cd' sl' ho
      intro A' Q' E' s' k q
      unfold isType loadHead
      exact wpAny_bind (wpAny_loadPart (k _ _ (X _ _ ho)) (wpAny_pure q))
    · cases hcD
  ne := fun h tp dd its n sl X htp => by
    obtain ⟨cdD, hcD, _⟩ := any_some T.hd
    refine Bool.eq_false_iff.mpr fun q => ?_
    have e : D = tp := Value.ref.inj (beq_iff_eq.mp q)
    subst e
    unfold clsIn at hcD
    split at hcD
    · rename_i c' d' cd' sl' ho
      have z := (X _ _ ho).symm.trans htp
      cases z
    · cases hcD
  ca := fun X ⟨_, _, I⟩ k => class_of T X I k
end
end PySem.YtE
namespace Yt
open PySem PySem.Spec PyProof.Rows L2
/-- at a an instance of the error class at C: with its field or without one -/
def ErrIs (H : Hp) (a C : Addr) : Prop := (∃ v, ErrAt H a C v) ∨ H a = some (exo a C none)
theorem ErrAt.is {H : Hp} {a C : Addr} {v : V} (h : ErrAt H a C v) : ErrIs H a C := .inl ⟨v, h⟩
theorem ErrIs.inst {X : Cx} {pins : List (Addr × Obj)} {σ : L2.St} {H : Hp} {s : Shared} {a C : Addr} (I : Inv X pins σ H s) (h : ErrIs H a C) : ∃ ox od, PySem.W.InstAt s.heap a ox C od := by
  rcases h with ⟨v, dd, ea, ed⟩ | ea
  · obtain ⟨t1, ha⟩ := exo_at I.hok ea
    obtain ⟨mA, hns, hr⟩ := exd_at I.hok ed
    obtain ⟨od, ho, hl⟩ := lookIn_ns hns
    exact ⟨_, some od, ha, rfl, rfl, ho⟩
  · obtain ⟨t1, ha⟩ := exo_at I.hok ea
    exact ⟨_, none, ha, rfl, rfl, trivial⟩
/-- isinstance(e, c), e an error of an own class -/
def rIsI (K : PySem.W.Frag) : List V → Hp → VK → Prop := fun xs H Q => ∃ (a D : Addr) (c : V) (cv : Value) (b : Bool), xs = [.ref a, c] ∧ ErrIs H a D ∧ ExcC K D ∧ (∀ u, RelV c u → u = cv) ∧ PySem.W.kitOne K (.ref D) cv = some b ∧ Q (.bl b) H
theorem call_isErr {X : Cx} : CallR X (.builtin "isinstance") (rIsI X.K) := by
  intro pins s σ H xs us Q I r h
  obtain ⟨a, D, c, cv, b, rfl, hE, C, hcv, e, q⟩ := h
  obtain ⟨u, w, rfl, ru, rw'⟩ := vals2 r
  obtain rfl : u = Value.ref a := ru
  have ec := hcv _ rw'
  subst ec
  exact PySem.W.kia_one (PySem.YtE.kit_err C) I.kIn (hE.inst I) e (fun z => nomatch z) fun tk => ⟨.bl b, H, I.kept (t' := tk) fun _ _ z => z, rfl, q⟩
end Yt

set_option Elab.async false
set_option linter.all false
set_option maxRecDepth 100000
set_option maxHeartbeats 2000000
namespace Yt
open PySem PySem.Spec PyProof.Rows L2
def top (i : Nat) : Stmt := PySem.Challenge.pw_pairtells_k01_errors_made.main.body.getD i (.Pass ⟨0, 0, 0, 0⟩)
abbrev sPurse : Stmt := top 34
abbrev sMixed : Stmt := top 35
abbrev sDraw : Stmt := top 36
abbrev sPurses : Stmt := top 37
abbrev sOne : Stmt := top 38
abbrev sWord : Stmt := top 39
abbrev FnP (K : PySem.W.Frag) (x : Str) (st : Stmt) (f : Addr) (fd : FuncData) : Prop := FunD K x x (defArgs st) (defBody st) (defScope st) [] [] f fd
/-- the names that the module leaves to Python -/
structure Nm (mg : Str → Option Value) : Prop where
  int : mg "int" = none
  sum : mg "sum" = none
  max : mg "max" = none
  min : mg "min" = none
  range : mg "range" = none
  len : mg "len" = none
/-- the law's purse at p: it may be drawn from f times more -/
def PurseAt (H : Hp) (p : Addr) (f : Nat) : Prop := ∃ x y c t : Int, H p = some (.lst [.int x, .int y, .int c, .int t]) ∧ 0 ≤ x ∧ (0 ≤ y ∧ y < 2147483648) ∧ (0 ≤ c ∧ c + f ≤ 1099511627776) ∧ (0 ≤ t ∧ t ≤ 63)
theorem PurseAt.less {H : Hp} {p : Addr} {f g : Nat} (h : PurseAt H p f) (l : g ≤ f) : PurseAt H p g := by
  obtain ⟨x, y, c, t, e, h1, h2, h3, h4⟩ := h
  exact ⟨x, y, c, t, e, h1, h2, ⟨h3.1, by omega⟩, h4⟩
def spMixed : Sp := fun vs H Q _ => ∃ y c t : Int, vs = [.int y, .int c, .int t] ∧ (0 ≤ y ∧ y < 2147483648) ∧ (0 ≤ c ∧ c ≤ 1099511627776) ∧ (0 ≤ t ∧ t ≤ 63) ∧ ∀ r : Int, 0 ≤ r → r < 2147483587 → Q (.int r) H
section
variable {P : Program} {w : World} {K : PySem.W.Frag} {mg : Str → Option Value} {base : Heap} {f fM : Addr} {fd fdM : FuncData}
theorem scMixed : FnScope ["_law_seed", "_law_spin", "_law_at", "_law_mixed_here"] ["_law_seed", "_law_spin", "_law_at"] (defScope sMixed) := ⟨rfl, rfl, rfl, by decide +kernel, rfl, by decide +kernel, by decide +kernel⟩
theorem ok_mixed (F : FnP K "_law_mixed" sMixed f fd) (T : Nm mg) : FnOk P w K mg base CX0 1 f fd ["_law_seed", "_law_spin", "_law_at"] spMixed := by
  refine F.ok scMixed (fun vs H Q E h => ?_) (fun cdv A outer s H vs Q E hr h => ?_)
  · obtain ⟨y, c, t, rfl, _⟩ := h
    rfl
  · obtain ⟨y, c, t, rfl, hy, hc, ht, k⟩ := h
    refine ⟨_, PSs.nox (pss_cons (ps_set (i := 3) scMixed.nd rfl (Or.inl rfl) (pe_op op_add (pe_op op_mul (pv 0) pe_int) (pe_op op_mul (pe_op op_mul pe_int (pv 1)) (pv 1))))
      (pss_cons (ps_set (i := 3) scMixed.nd rfl (Or.inl rfl) (pe_op op_mod (pe_callTy call_int1 (by rfl) T.int (by decide +kernel) (pa_cons (pe_op op_add (pe_op op_add (pv 3) (pe_op op_mul pe_int (pv 2))) (pv 1)) pa_nil)) pe_int))
      (pss_cons (ps_set (i := 3) scMixed.nd rfl (Or.inl rfl) (pe_op op_mod (pe_callTy call_int1 (by rfl) T.int (by decide +kernel) (pa_cons (pe_op op_add (pe_op op_mul (pv 3) (pv 3)) pe_int) pa_nil)) pe_int))
      (pss_one (ps_ret (pe_op op_mod (pe_callTy call_int1 (by rfl) T.int (by decide +kernel) (pa_cons (pe_op op_mul (pv 3) pe_int) pa_nil)) pe_int)))))), ?_⟩
    refine ⟨_, rfl, _, _, rfl, rfl, .inl ⟨by omega, by omega⟩, _, rfl, _, _, rfl, rfl, .inr ⟨by omega, by omega⟩, _, rfl, _, _, rfl, rfl, .inr ⟨by omega, by omega⟩, _, _, rfl, rfl, ?_⟩
    refine ⟨_, rfl, _, rfl, _, _, rfl, rfl, .inl ⟨by omega, by omega⟩, _, _, rfl, rfl, _, rfl, _, _, rfl, rfl, .inl ⟨_, rfl, _, _, rfl, rfl, (show (0 : Int) < 2147483647 by decide), ?_⟩⟩
    refine ⟨_, rfl, _, rfl, _, _, rfl, rfl, .inl ⟨by omega, by omega⟩, _, _, rfl, rfl, .inl ⟨_, rfl, _, _, rfl, rfl, (show (0 : Int) < 2147483629 by decide), ?_⟩⟩
    refine ⟨_, rfl, _, _, rfl, rfl, .inl ⟨by omega, by omega⟩, .inl ⟨_, rfl, _, _, rfl, rfl, (show (0 : Int) < 2147483587 by decide), ?_⟩⟩
    exact k _ (Int.emod_nonneg _ (by decide)) (Int.emod_lt_of_pos _ (by decide))

/-- all but what stands at p is as it was -/
def But (p : Addr) (H H' : Hp) : Prop := ∀ b o, b ≠ p → H b = some o → H' b = some o
theorem But.trans {p : Addr} {H H1 H2 : Hp} (a : But p H H1) (b : But p H1 H2) : But p H H2 := fun c o n h => b c o n (a c o n h)
theorem But.refl (p : Addr) (H : Hp) : But p H H := fun _ _ _ h => h
theorem Same.but {p : Addr} {H H1 : Hp} (a : Same H H1) : But p H H1 := fun c o _ h => a c o h
def spDraw : Sp := fun vs H Q _ => ∃ (p : Addr) (f : Nat) (m : Int), vs = [.ref p, .int m] ∧ PurseAt H p (f + 1) ∧ (1 ≤ m ∧ m ≤ 1000000) ∧ ∀ (r : Int) (H' : Hp), 0 ≤ r → r < m → PurseAt H' p f → But p H H' → Q (.int r) H'
theorem bits_small {m : Int} (h0 : 1 ≤ m) (h1 : m ≤ 1000000) : ((Builtin.Int.intBits m : Nat) : Int) / 28 = 0 := by
  have b : Builtin.Int.intBits m ≤ m.natAbs.log2 + 1 := by
    unfold Builtin.Int.intBits
    split <;> omega
  have h2 : m.natAbs.log2 < 20 := (Nat.log2_lt (by omega)).mpr (by omega)
  omega
theorem scDraw : FnScope ["_law_purse_here", "_law_many", "_law_drawn", "_law_found", "_law_piece"] ["_law_purse_here", "_law_many"] (defScope sDraw) := ⟨rfl, rfl, rfl, by decide +kernel, rfl, by decide +kernel, by decide +kernel⟩
theorem ok_draw (F : FnP K "_law_draw" sDraw f fd) (T : Nm mg) (FM : FnP K "_law_mixed" sMixed fM fdM) (gM : mg "_law_mixed" = some (.ref fM)) : FnOk P w K mg base CX0 2 f fd ["_law_purse_here", "_law_many"] spDraw := by
  have GM : FnOk P w K mg base CX0 1 fM fdM ["_law_seed", "_law_spin", "_law_at"] spMixed := ok_mixed FM T
  have bM : Binds K fdM ["_law_seed", "_law_spin", "_law_at"] [] := FM.bindsN fun _ _ _ _ _ _ us hl => match us, hl with | [_, _, _], _ => rfl
  refine F.ok scDraw (fun vs H Q E h => ?_) (fun cdv A outer s H vs Q E hr h => ?_)
  · obtain ⟨p, g, m, rfl, _⟩ := h
    rfl
  · obtain ⟨p, g, m, rfl, ⟨x, y, c, t, hp, hx, hy, hc, ht⟩, hm, k⟩ := h
    refine ⟨_, PSs.nox (pss_cons (ps_if (pt_cmpR op_gt (pe_ix ix_list (pv 0) pe_int (fun _ _ => rfl)) pe_int (nomark _))
        (pss_cons (ps_set (i := 2) scDraw.nd rfl (Or.inl rfl) (pe_op op_mod (pe_callTy call_int1 (by rfl) T.int (by decide +kernel) (pa_cons (pe_ix ix_list (pv 0) pe_int (fun _ _ => rfl)) pa_nil)) (pv 1)))
        (pss_cons (ps_asg (pe_op op_fdiv (pe_ix ix_list (pv 0) pe_int (fun _ _ => rfl)) (pv 1)) (pg_sub (pv 0) pe_int set_list))
        (pss_one (ps_ret (pv 2))))) pss_nil)
      (pss_cons (ps_set (i := 3) scDraw.nd rfl (Or.inl rfl) pe_int)
      (pss_cons (ps_for PassesOwn.never rfl (pi_range1 rfl T.range (pa_cons (pe_op op_add pe_int (pe_op op_fdiv (pe_bits (pv 1)) pe_int)) pa_nil)) (pg_name (i := 4) scDraw.nd rfl (Or.inl rfl))
        (pss_cons (ps_asg (pe_op op_add (pe_ix ix_list (pv 0) pe_int (fun _ _ => rfl)) pe_int) (pg_sub (pv 0) pe_int set_list))
        (pss_one (ps_set (i := 3) scDraw.nd rfl (Or.inl rfl) (pe_op op_add (pe_op op_mul (pv 3) pe_int) (pe_call GM hr rfl gM FM.kp bM .nil pass0 (pa_cons (pe_ix ix_list (pv 0) pe_int (fun _ _ => rfl)) (pa_cons (pe_ix ix_list (pv 0) pe_int (fun _ _ => rfl)) (pa_cons (pe_ix ix_list (pv 0) pe_int (fun _ _ => rfl)) pa_nil)))))))))
      (pss_one (ps_ret (pe_op op_mod (pe_callTy call_int1 (by rfl) T.int (by decide +kernel) (pa_cons (pv 3) pa_nil)) (pv 1))))))), ?_⟩
    refine ⟨_, rfl, p, _, _, _, rfl, rfl, SqL.of hp, atI_nat (j := 0) rfl, _, _, rfl, rfl, _, rfl, ?_⟩
    refine ite2 (fun hd => ?_) (fun hd => ?_)
    · refine ⟨_, rfl, p, _, _, _, rfl, rfl, SqL.of hp, atI_nat (j := 0) rfl, .inl ⟨_, rfl, _, rfl, _, _, rfl, rfl, (show (0 : Int) < m by omega), ?_⟩⟩
      refine ⟨_, rfl, p, _, _, _, rfl, rfl, SqL.of hp, atI_nat (j := 0) rfl, _, rfl, _, _, rfl, rfl, ⟨by omega, by omega⟩, _, rfl, p, _, _, 0, rfl, rfl, hp, rfl, ?_⟩
      refine ⟨_, rfl, ?_⟩
      refine k _ _ (Int.emod_nonneg _ (by omega)) (Int.emod_lt_of_pos _ (by omega)) ⟨x / m, y, c, t, upd_same, Int.ediv_nonneg hx (by omega), hy, ⟨hc.1, by omega⟩, ht⟩ fun b o n z => ?_
      rw [upd_ne n]
      exact z
    · refine ⟨_, rfl, _, rfl, _, _, rfl, rfl, (show (0 : Int) < 28 ∧ (28 : Int) < 1073741824 by decide), _, _, rfl, rfl, ?_⟩
      rw [bits_small hm.1 hm.2]
      refine ⟨_, rfl, by decide, by decide, for_range (lo := 0) (n := 1) (fun i σ H2 => ∃ (r : Int) (v : Option V), σ = [some (.ref p), some (.int m), none, some (.int r), v] ∧ 0 ≤ r ∧ (i = 0 → H2 = H) ∧ (i = 1 → PurseAt H2 p g ∧ But p H H2))
        ⟨0, none, rfl, by decide, fun _ => rfl, fun z => by cases z⟩ ?_ ?_⟩
      · rintro i σ H2 hi ⟨r, v, rfl, hr0, h0, _⟩
        obtain rfl : i = 0 := by omega
        obtain rfl := h0 rfl
        refine ⟨_, rfl, p, _, _, _, rfl, rfl, SqL.of hp, atI_nat (j := 2) rfl, _, _, rfl, rfl, _, rfl, p, _, _, 2, rfl, rfl, hp, rfl, ?_⟩
        refine ⟨_, rfl, _, _, rfl, rfl, .inr ⟨by decide, by decide⟩, _, rfl, p, _, _, _, rfl, rfl, SqL.of upd_same, atI_nat (j := 1) rfl, _, rfl, p, _, _, _, rfl, rfl, SqL.of upd_same, atI_nat (j := 2) rfl, _, rfl, p, _, _, _, rfl, rfl, SqL.of upd_same, atI_nat (j := 3) rfl, ?_⟩
        refine ⟨y, c + 1, t, rfl, hy, ⟨by omega, by omega⟩, ht, fun q q0 q1 => ?_⟩
        refine ⟨_, _, rfl, rfl, r * 2147483587 + q, _, rfl, by omega, (fun z => by cases z), fun _ => ⟨⟨x, y, c + 1, t, upd_same, hx, hy, ⟨by omega, by omega⟩, ht⟩, fun b o n z => ?_⟩⟩
        rw [upd_ne n]
        exact z
      · rintro σ H2 ⟨r, v, rfl, hr0, _, h1⟩
        obtain ⟨hP, hB⟩ := h1 rfl
        refine ⟨_, rfl, .inl ⟨_, rfl, _, rfl, _, _, rfl, rfl, (show (0 : Int) < m by omega), ?_⟩⟩
        exact k _ _ (Int.emod_nonneg _ (by omega)) (Int.emod_lt_of_pos _ (by omega)) hP hB

def FUEL : Nat := 1000000000000
def spPurse (K : PySem.W.Frag) : Sp := fun vs H Q _ => ∃ (a : Addr) (ns : List Int) (t : Int), vs = [.ref a, .int t] ∧ SqL K H a (ns.map V.int) ∧ (0 ≤ t ∧ t ≤ 63) ∧ ∀ (p : Addr) (H' : Hp), H p = none → Same H H' → PurseAt H' p FUEL → Q (.ref p) H'
theorem cut_ints (ns : List Int) (lo hi : Option Int) : ∃ ms : List Int, cutV (ns.map V.int) lo hi = ms.map V.int := by
  unfold cutV
  rw [← List.map_drop, ← List.map_take]
  exact ⟨_, rfl⟩
theorem scPurse : FnScope ["_law_script", "_law_at", "_law_seed"] ["_law_script", "_law_at"] (defScope sPurse) := ⟨rfl, rfl, rfl, by decide +kernel, rfl, by decide +kernel, by decide +kernel⟩
theorem big_pos : (0 : Int) < ((10 : Int) ^ (60 : Int).toNat) ^ (8 : Int).toNat := Int.pow_pos (Int.pow_pos (by decide))
theorem pow_ok : CPowW ((10 : Int) ^ (60 : Int).toNat) 8 := ⟨by decide, by decide +kernel⟩
theorem ok_purse (F : FnP K "_law_purse" sPurse f fd) (T : Nm mg) : FnOk P w K mg base CX0 1 f fd ["_law_script", "_law_at"] (spPurse K) := by
  refine F.ok scPurse (fun vs H Q E h => ?_) (fun cdv A outer s H vs Q E hr h => ?_)
  · obtain ⟨a, ns, t, rfl, _⟩ := h
    rfl
  · obtain ⟨a, ns, t, rfl, hS, ht, k⟩ := h
    refine ⟨_, PSs.nox (pss_cons (ps_set (i := 2) scPurse.nd rfl (Or.inl rfl) (pe_callB (cr_sum rfl) (by rfl) T.sum (by decide +kernel) (pa_cons (pe_slice sl_list (pv 0) (po_some (pv 1)) (po_some (pe_op op_add (pv 1) pe_int))) pa_nil)))
      (pss_one (ps_ret (pe_lst (pa_cons (pe_op op_mod (pe_callTy call_int1 (by rfl) T.int (by decide +kernel) (pa_cons (pe_callB (call_max2 rfl) (by rfl) T.max (by decide +kernel) (pa_cons (pe_op op_sub (pv 2) (pe_op op_pow pe_int pe_int)) (pa_cons pe_int pa_nil))) pa_nil)) (pe_op op_powW (pe_op op_pow pe_int pe_int) pe_int))
        (pa_cons (pe_op op_mod (pe_callTy call_int1 (by rfl) T.int (by decide +kernel) (pa_cons (pv 2) pa_nil)) pe_int) (pa_cons pe_int (pa_cons (pv 1) pa_nil)))))))), ?_⟩
    obtain ⟨ms, hms⟩ := cut_ints ns (some t) (some (t + 1))
    refine ⟨_, rfl, _, rfl, _, rfl, _, rfl, _, _, rfl, rfl, _, rfl, a, _, rfl, hS, fun p np => ?_⟩
    refine ⟨p, ms, rfl, SqL.of (by rw [upd_same, hms]), ?_⟩
    refine ⟨_, rfl, _, _, rfl, rfl, ⟨by decide, by decide, by decide⟩, _, _, rfl, rfl, _, _, rfl, .inl ⟨_, rfl, _, _, rfl, rfl, ⟨by decide, by decide, by decide⟩, _, _, rfl, rfl, pow_ok, _, _, rfl, rfl, big_pos, ?_⟩⟩
    refine ⟨_, rfl, .inl ⟨_, rfl, _, _, rfl, rfl, (show (0 : Int) < 2147483629 by decide), _, rfl, (by show 4 ≤ sizeLine; decide), fun q nq => ?_⟩⟩
    have hq : H q = none := by
      by_cases e : q = p
      · rw [e]
        exact np
      · rw [upd_ne e] at nq
        exact nq
    refine k q _ hq (fun b o z => ?_) ⟨_, _, 0, t, upd_same, Int.emod_nonneg _ (Int.ne_of_gt big_pos), ⟨Int.emod_nonneg _ (by decide), Int.lt_trans (Int.emod_lt_of_pos _ (by decide)) (by decide)⟩, ⟨by decide, by decide⟩, ht⟩
    rw [upd_ne (ne_of_none z hq), upd_ne (ne_of_none z np)]
    exact z
def spOne (K : PySem.W.Frag) : Sp := fun vs H Q _ => ∃ (p a : Addr) (f : Nat) (xs : List V), vs = [.ref p, .ref a] ∧ PurseAt H p (f + 1) ∧ SqL K H a xs ∧ a ≠ p ∧ (0 < xs.length ∧ xs.length ≤ 1000000) ∧ ∀ (i : Nat) (x : V) (H' : Hp), xs[i]? = some x → PurseAt H' p f → But p H H' → Q x H'

theorem But.seq {K : PySem.W.Frag} {p a : Addr} {H H' : Hp} {xs : List V} (b : But p H H') (n : a ≠ p) (h : SqL K H a xs) : SqL K H' a xs := by
  rcases h with (h | ⟨o, h⟩) | h
  · exact .inl (.inl (b _ _ n h))
  · exact .inl (.inr ⟨o, b _ _ n h⟩)
  · exact .inr h
theorem atI_in {α : Type} (xs : List α) {r : Int} (h0 : 0 ≤ r) (h1 : r < xs.length) : ∃ (i : Nat) (x : α), xs[i]? = some x ∧ atI xs r = some x := by
  have hi : r.toNat < xs.length := by omega
  refine ⟨r.toNat, xs[r.toNat], List.getElem?_eq_getElem hi, ?_⟩
  have e : r = (r.toNat : Int) := (Int.toNat_of_nonneg h0).symm
  have z := atI_nat (List.getElem?_eq_getElem hi)
  rw [← e] at z
  exact z
theorem scOne : FnScope ["_law_purse_here", "_law_some"] ["_law_purse_here", "_law_some"] (defScope sOne) := ⟨rfl, rfl, rfl, by decide +kernel, rfl, by decide +kernel, by decide +kernel⟩
theorem ok_one {fD : Addr} {fdD : FuncData} (F : FnP K "_law_one_of" sOne f fd) (T : Nm mg) (GD : FnOk P w K mg base CX0 2 fD fdD ["_law_purse_here", "_law_many"] spDraw) (bD : Binds K fdD ["_law_purse_here", "_law_many"] []) (kD : PySem.W.keepIn K (.ref fD) = true) (gD : mg "_law_draw" = some (.ref fD)) :
    FnOk P w K mg base CX0 3 f fd ["_law_purse_here", "_law_some"] (spOne K) := by
  refine F.ok scOne (fun vs H Q E h => ?_) (fun cdv A outer s H vs Q E hr h => ?_)
  · obtain ⟨p, a, g, xs, rfl, _⟩ := h
    rfl
  · obtain ⟨p, a, g, xs, rfl, hP, hS, ne, hl, k⟩ := h
    refine ⟨_, PSs.nox (pss_one (ps_ret (pe_ix ix_list (pv 1) (pe_call GD hr rfl gD kD bD .nil pass0 (pa_cons (pv 0) (pa_cons (pe_callB call_len (by rfl) T.len PySem.boot_len (pa_cons (pv 1) pa_nil)) pa_nil))) (fun _ _ => rfl)))), ?_⟩
    refine ⟨_, rfl, _, rfl, _, rfl, _, xs.length, rfl, Or.inl ⟨_, hS, rfl⟩, p, g, (xs.length : Int), rfl, hP, ⟨by omega, by omega⟩, fun r H' r0 r1 hP' hB => ?_⟩
    obtain ⟨i, x, hi, hx⟩ := atI_in xs r0 r1
    exact ⟨a, xs, r, x, rfl, rfl, hB.seq ne hS, hx, k i x H' hi hP' hB⟩
/-- a word of the language -/
def WordOk (z : Str) : Prop := (1 ≤ z.length ∧ z.length ≤ 8) ∧ ∀ c ∈ z.cps.toList, 97 ≤ c ∧ c ≤ 122
def spWord : Sp := fun vs H Q _ => ∃ (p : Addr) (f : Nat), vs = [.ref p] ∧ PurseAt H p (f + 10) ∧ ∀ (z : Str) (H' : Hp), WordOk z → PurseAt H' p f → But p H H' → Q (.str z) H'
theorem joinL_nil : ∀ l : List (List Nat), TL.joinL [] l = l.flatten
  | [] => rfl
  | [p] => by simp [TL.joinL]
  | p :: q :: r => by
    show p ++ ([] ++ TL.joinL [] (q :: r)) = _
    rw [joinL_nil (q :: r)]
    simp
def abc : Str := "abcdefghijklmnopqrstuvwxyz"
theorem abc_at {r : Int} (h0 : 0 ≤ r) (h1 : r < 26) : ∃ c : Nat, atI abc.cps.toList r = some c ∧ (97 ≤ c ∧ c ≤ 122) := by
  obtain ⟨i, x, hi, hx⟩ := atI_in abc.cps.toList h0 (by show r < (26 : Nat); omega)
  refine ⟨x, hx, ?_⟩
  have hall : ∀ c ∈ abc.cps.toList, 97 ≤ c ∧ c ≤ 122 := by decide +kernel
  exact hall x (List.mem_of_getElem? hi)
/-- one sign each -/
def Signs (ys : List Str) : Prop := ∀ y ∈ ys, ∃ c : Nat, y = ⟨#[c]⟩ ∧ (97 ≤ c ∧ c ≤ 122)
theorem signs_flat : ∀ {ys : List Str}, Signs ys → ((ys.map TL.tl).flatten.length = ys.length ∧ ∀ c ∈ (ys.map TL.tl).flatten, 97 ≤ c ∧ c ≤ 122)
  | [], _ => ⟨rfl, fun c z => nomatch z⟩
  | y :: r, h => by
    obtain ⟨i1, i2⟩ := signs_flat (ys := r) fun z hz => h z (List.mem_cons_of_mem _ hz)
    obtain ⟨c, rfl, hc⟩ := h y (List.mem_cons_self ..)
    refine ⟨?_, fun d hd => ?_⟩
    · show ([c] ++ (r.map TL.tl).flatten).length = _
      rw [List.length_append, i1]
      show 1 + r.length = r.length + 1
      omega
    · have hd2 : d ∈ [c] ++ (r.map TL.tl).flatten := hd
      rcases List.mem_append.mp hd2 with z | z
      · rw [List.mem_singleton.mp z]
        exact hc
      · exact i2 d z
theorem word_of {ys : List Str} (h : Signs ys) (h1 : 1 ≤ ys.length) (h8 : ys.length ≤ 8) : WordOk (Txt.join "" ys) := by
  obtain ⟨i1, i2⟩ := signs_flat h
  have e : (Txt.join "" ys).cps.toList = (ys.map TL.tl).flatten := by
    rw [TL.join_eq]
    show TL.tl (Str.join "" ys) = _
    rw [TL.tl_join]
    exact joinL_nil _
  have el : (Txt.join "" ys).length = ys.length := by
    show (Txt.join "" ys).cps.size = _
    rw [← Array.length_toList, e, i1]
  exact ⟨⟨by omega, by omega⟩, fun c hc => i2 c (by rw [← e]; exact hc)⟩
theorem signs_len : ∀ {ys : List Str}, Signs ys → (ys.map (·.length)).sum = ys.length
  | [], _ => rfl
  | y :: r, h => by
    have i := signs_len (ys := r) fun z hz => h z (List.mem_cons_of_mem _ hz)
    obtain ⟨c, rfl, _⟩ := h y (List.mem_cons_self ..)
    rw [List.map_cons, List.sum_cons, i, List.length_cons]
    show 1 + r.length = r.length + 1
    omega
theorem scWord : FnScope ["_law_purse_here", "_law_size", "_law_spin"] ["_law_purse_here"] (defScope sWord) := ⟨rfl, rfl, rfl, by decide +kernel, rfl, by decide +kernel, by decide +kernel⟩
theorem ok_word {fD : Addr} {fdD : FuncData} (F : FnP K "_law_word" sWord f fd) (T : Nm mg) (GD : FnOk P w K mg base CX0 2 fD fdD ["_law_purse_here", "_law_many"] spDraw) (bD : Binds K fdD ["_law_purse_here", "_law_many"] []) (kD : PySem.W.keepIn K (.ref fD) = true) (gD : mg "_law_draw" = some (.ref fD)) :
    FnOk P w K mg base CX0 3 f fd ["_law_purse_here"] spWord := by
  refine F.ok scWord (fun vs H Q E h => ?_) (fun cdv A outer s H vs Q E hr h => ?_)
  · obtain ⟨p, g, rfl, _⟩ := h
    rfl
  · obtain ⟨p, g, rfl, hP, k⟩ := h
    refine ⟨_, PSs.nox (pss_cons (ps_set (i := 1) scWord.nd rfl (Or.inl rfl) (pe_op op_add pe_int (pe_call GD hr rfl gD kD bD .nil pass0 (pa_cons (pv 0) (pa_cons (pe_ifExp (pt_cmpR op_eq (pe_call GD hr rfl gD kD bD .nil pass0 (pa_cons (pv 0) (pa_cons pe_int pa_nil))) pe_int (nomark _)) pe_int pe_int) pa_nil)))))
      (pss_one (ps_ret (pe_join pe_str (pe_lc (own := [("_law_spin", 2)]) (g := gName 2) (tt := tYes) rfl scWord.nd (pi_range1 rfl T.range (pa_cons (pv 1) pa_nil)) (blkOk_by (own := [("_law_spin", 2)]) (N := ["_law_purse_here", "_law_size", "_law_spin"]) (sc := defScope sWord) (by decide +kernel))
        (fun _ _ _ _ _ => pg_name (i := 2) scWord.nd rfl (Or.inl rfl)) (fun _ _ _ _ _ => pts_nil)
        (fun _ _ _ _ _ => pe_ix ix_str pe_str (pe_call GD hr rfl gD kD bD .nil pass0 (pa_cons (pv 0) (pa_cons pe_int pa_nil))) (fun _ _ => rfl))))))), ?_⟩
    refine ⟨_, rfl, _, rfl, p, g + 9, 3, rfl, hP, ⟨by decide, by decide⟩, fun r H1 r0 r1 hP1 hB1 => ⟨rfl, _, rfl, ?_⟩⟩
    refine ite2 (fun hd => ⟨p, g + 8, 8, rfl, hP1, ⟨by decide, by decide⟩, fun r2 H2 r20 r21 hP2 hB2 => ⟨_, _, rfl, rfl, ?_⟩⟩) (fun hd => ⟨p, g + 8, 3, rfl, hP1, ⟨by decide, by decide⟩, fun r2 H2 r20 r21 hP2 hB2 => ⟨_, _, rfl, rfl, ?_⟩⟩)
    all_goals
      have hB : But p H H2 := hB1.trans hB2
      have hn : ((1 + r2).toNat : Int) = 1 + r2 := Int.toNat_of_nonneg (by omega)
      generalize hN : (1 + r2).toNat = n at hn
      refine ⟨⟨_, rfl⟩, _, rfl, _, rfl, (show -(2 ^ 62) ≤ (1 + r2 : Int) by omega), (show (1 + r2 : Int) < 2 ^ 62 by omega), fun D hD => ?_⟩
      have nD : D ≠ p := fun z => by
        obtain ⟨x, y, c, t, e, _⟩ := hP2
        rw [z, e] at hD
        cases hD
      have hD0 : H D = none := by
        cases e : H D with
        | none => rfl
        | some o =>
          rw [hB D o nD e] at hD
          cases hD
      refine lc_range (lo := 0) (n := (1 + r2).toNat) (fun i H3 => ∃ ys : List Str, ys.length = i ∧ Signs ys ∧ H3 D = some (.lst (ys.map V.str)) ∧ PurseAt H3 p (g + 8 - i) ∧ But p H H3) ?_ ?_ ?_
      · refine ⟨[], rfl, (fun y z => nomatch z), upd_same, ?_, fun b o nb z => ?_⟩
        · obtain ⟨x, y, c, t, e, h1⟩ := hP2
          exact ⟨x, y, c, t, by rw [upd_ne nD.symm]; exact e, h1⟩
        · rw [upd_ne (ne_of_none z hD0)]
          exact hB b o nb z
      · rintro i H3 hi ⟨ys, hl, hs, hDy, hP3, hB3⟩
        have e1 : g + 8 - i = g + 8 - (i + 1) + 1 := by omega
        rw [e1] at hP3
        refine ⟨rfl, ?_⟩
        refine ⟨_, rfl, p, g + 8 - (i + 1), 26, rfl, hP3, ⟨by decide, by decide⟩, fun r3 H4 r30 r31 hP4 hB4 => ?_⟩
        obtain ⟨c, hc, hc1⟩ := abc_at r30 r31
        have hD4 : H4 D = some (.lst (ys.map V.str)) := hB4 _ _ nD hDy
        refine ⟨_, _, c, rfl, rfl, (by show 26 ≤ sizeLine; decide), hc, _, hD4, (by rw [List.length_map]; exact small1000 (by omega)), ys ++ [⟨#[c]⟩], (by rw [List.length_append]; show ys.length + 1 = _; omega), ?_, ?_, ?_, ?_⟩
        · intro y hy
          rcases List.mem_append.mp hy with z | z
          · exact hs y z
          · exact ⟨c, List.mem_singleton.mp z, hc1⟩
        · rw [upd_same, List.map_append]
          rfl
        · obtain ⟨x, y, c2, t, e, h1⟩ := hP4
          exact ⟨x, y, c2, t, by rw [upd_ne nD.symm]; exact e, h1⟩
        · intro b o nb z
          rw [upd_ne (ne_of_none z hD0)]
          exact hB4 b o nb (hB3 b o nb z)
      · rintro H3 ⟨ys, hl, hs, hDy, hP3, hB3⟩
        refine ⟨_, D, ys, rfl, rfl, .inl (SqL.of hDy), ?_, ?_⟩
        · rw [signs_len hs]
          show ys.length + ys.length * 0 ≤ 16777216
          omega
        · exact k _ H3 (word_of hs (by omega) (by omega)) (hP3.less (by omega)) hB3

theorem PurseAt.to {H H' : Hp} {p : Addr} {f : Nat} (h : PurseAt H p f) (k : ∀ o, H p = some o → H' p = some o) : PurseAt H' p f := by
  obtain ⟨x, y, c, t, e, h1⟩ := h
  exact ⟨x, y, c, t, k _ e, h1⟩
theorem PurseAt.some {H : Hp} {p : Addr} {f : Nat} (h : PurseAt H p f) : ∃ o, H p = some o := by
  obtain ⟨x, y, c, t, e, h1⟩ := h
  exact ⟨_, e⟩
def spPurses (K : PySem.W.Frag) : Sp := fun vs H Q _ => ∃ (a : Addr) (ns : List Int) (w : Int), vs = [.ref a, .int w] ∧ SqL K H a (ns.map V.int) ∧ ns.length ≤ 63 ∧ (1 ≤ w ∧ w ≤ 63) ∧
  ∀ (L : Addr) (ps : List Addr) (H' : Hp), ps ≠ [] → (ps.length : Int) ≤ w → H L = none → H' L = some (.lst (ps.map V.ref)) → (∀ q ∈ ps, PurseAt H' q FUEL ∧ H q = none ∧ q ≠ L) → ps.Nodup → Same H H' → Q (.ref L) H'
theorem scPurses : FnScope ["_law_script", "_law_few", "_law_at"] ["_law_script", "_law_few"] (defScope sPurses) := ⟨rfl, rfl, rfl, by decide +kernel, rfl, by decide +kernel, by decide +kernel⟩
theorem ok_purses {fD : Addr} {fdD : FuncData} (F : FnP K "_law_purses" sPurses f fd) (T : Nm mg) (GD : FnOk P w K mg base CX0 1 fD fdD ["_law_script", "_law_at"] (spPurse K)) (bD : Binds K fdD ["_law_script", "_law_at"] []) (kD : PySem.W.keepIn K (.ref fD) = true) (gD : mg "_law_purse" = some (.ref fD)) :
    FnOk P w K mg base CX0 2 f fd ["_law_script", "_law_few"] (spPurses K) := by
  refine F.ok scPurses (fun vs H Q E h => ?_) (fun cdv A outer s H vs Q E hr h => ?_)
  · obtain ⟨a, ns, w, rfl, _⟩ := h
    rfl
  · obtain ⟨a, ns, w, rfl, hS, hl, hw, k⟩ := h
    refine ⟨_, PSs.nox (pss_one (ps_ret (pe_lc (own := [("_law_at", 2)]) (g := gName 2) (tt := tYes) rfl scPurses.nd (pi_range1 rfl T.range (pa_cons (pe_callB (call_max2 rfl) (by rfl) T.max (by decide +kernel) (pa_cons pe_int (pa_cons (pe_callB (call_min2 rfl) (by rfl) T.min (by decide +kernel) (pa_cons (pv 1) (pa_cons (pe_callB call_len (by rfl) T.len PySem.boot_len (pa_cons (pv 0) pa_nil)) pa_nil))) pa_nil))) pa_nil)) (blkOk_by (own := [("_law_at", 2)]) (N := ["_law_script", "_law_few", "_law_at"]) (sc := defScope sPurses) (by decide +kernel))
        (fun _ _ _ _ _ => pg_name (i := 2) scPurses.nd rfl (Or.inl rfl)) (fun _ _ _ _ _ => pts_nil)
        (fun _ _ _ _ _ => pe_call GD hr rfl gD kD bD .nil pass0 (pa_cons (pv 0) (pa_cons (pv 2) pa_nil)))))), ?_⟩
    generalize hm : (if (ns.length : Int) < w then (ns.length : Int) else w) = m
    generalize hn : (if m > 1 then m else 1) = n
    have hm63 : m ≤ w := by
      rw [← hm]
      split <;> omega
    have hn1 : 1 ≤ n ∧ n ≤ w := by
      rw [← hn]
      split <;> omega
    refine ⟨_, rfl, _, rfl, _, ns.length, rfl, Or.inl ⟨_, hS, (List.length_map _).symm⟩, _, _, rfl, _, _, rfl, n, ?_, (by omega), (by omega), fun D hD => ?_⟩
    · rw [hm, hn]
    refine lc_range (lo := 0) (n := n.toNat) (fun i H3 => ∃ ps : List Addr, ps.length = i ∧ H3 D = some (.lst (ps.map V.ref)) ∧ (∀ q ∈ ps, PurseAt H3 q FUEL ∧ H q = none ∧ q ≠ D) ∧ ps.Nodup ∧ Same H H3) ?_ ?_ ?_
    · refine ⟨[], rfl, upd_same, (fun q z => nomatch z), List.nodup_nil, fun b o z => ?_⟩
      rw [upd_ne (ne_of_none z hD)]
      exact z
    · rintro i H3 hi ⟨ps, hl3, h3, hps, hnd, s3⟩
      refine ⟨rfl, ?_⟩
      refine ⟨_, rfl, _, rfl, a, ns, (0 + (i : Int)), rfl, s3.seq hS, ⟨by omega, by omega⟩, fun q H4 nq s4 hq => ?_⟩
      have h4 : H4 D = some (.lst (ps.map V.ref)) := s4 _ _ h3
      have nqD : q ≠ D := fun z => by
        rw [z, h3] at nq
        cases nq
      have nqp : q ∉ ps := fun z => by
        obtain ⟨o, e⟩ := (hps q z).1.some
        rw [nq] at e
        cases e
      refine ⟨_, h4, (by rw [List.length_map]; exact small1000 (by omega)), ps ++ [q], (by rw [List.length_append]; show ps.length + 1 = _; omega), ?_, fun z hz => ?_, ?_, fun b o z => ?_⟩
      · rw [upd_same, List.map_append]
        rfl
      · rcases List.mem_append.mp hz with hz | hz
        · obtain ⟨h1, h2, h5⟩ := hps z hz
          exact ⟨(h1.to fun o e => by rw [upd_ne h5]; exact s4 _ _ e), h2, h5⟩
        · rw [List.mem_singleton.mp hz]
          exact ⟨(hq.to fun o e => by rw [upd_ne nqD]; exact e), s3.free nq, nqD⟩
      · refine List.nodup_append.mpr ⟨hnd, by simp, fun x hx y hy e => ?_⟩
        rw [List.mem_singleton.mp hy] at e
        exact nqp (e ▸ hx)
      · rw [upd_ne (ne_of_none z hD)]
        exact s4 _ _ (s3 _ _ z)
    · rintro H3 ⟨ps, hl3, h3, hps, hnd, s3⟩
      refine k D ps H3 (fun z => ?_) (by omega) hD h3 hps hnd s3
      rw [z] at hl3
      simp only [List.length_nil] at hl3
      omega
end
end Yt

set_option Elab.async false
set_option linter.all false
set_option maxRecDepth 100000
set_option maxHeartbeats 2000000
namespace Yt
open PySem PySem.Spec PyProof.Rows L2
abbrev sFirst : Stmt := top 40
abbrev sCalled : Stmt := top 41
abbrev sBare : Stmt := top 42
abbrev sCode : Stmt := top 43
abbrev sIsErr : Stmt := top 44
abbrev sRight : Stmt := top 45
abbrev sLaw : Stmt := top 46
/-! ### weaker readings -/
section
variable {X : Cx}
theorem peW {e : Expr} {t t' : TE} (h : PE X e t) (k : ∀ σ H Q, t' σ H Q → t σ H Q) : PE X e t' := ⟨fun pins s σ H Q I q => h.run pins s σ H Q I (k σ H Q q)⟩
theorem paW {es : List Expr} {t t' : TA} (h : PA X es t) (k : ∀ σ H Q, t' σ H Q → t σ H Q) : PA X es t' := ⟨fun pos pins s σ H Q I q => h.run pos pins s σ H Q I (k σ H Q q)⟩
theorem psW {st : Stmt} {t t' : TS} (h : PS X st t) (k : ∀ D σ H, t' D σ H → t D σ H) : PS X st t' := ⟨fun pins s σ H D I q => h.run pins s σ H D I (k D σ H q)⟩
end
/-! ### an error class as it stands: how it is made -/
structure ErrOk (P : Program) (w : World) (K : PySem.W.Frag) (mg : Str → Option Value) (base : Heap) (x : Str) (C : Addr) : Prop where
  glo : mg x = some (.ref C)
  ini : ∃ fI fd, ErrC K C fI ∧ FnOk P w K mg base CX0 1 fI fd ["self", "value"] (spErr K) ∧ ErrB K fd
def tErrV (val : L2.St → V → Prop) (C : Addr) : TE := fun σ H Q => ∃ v, val σ v ∧ ∀ e H2, H e = none → Same H H2 → ErrAt H2 e C v → Q (.ref e) H2
def val0 : L2.St → V → Prop := fun σ v => σ[0]? = some (some v)
def valN : L2.St → V → Prop := fun _ v => v = .non
section
variable {X : Cx} {C : Addr} {x y : Str} {p q pos kpos : Pos}
theorem pe_e1 (E : ErrOk X.prog X.w X.K X.mg X.base x C) (hr : Room 2 X.A) (hg : Gl X x) (he : PE X (.Name y q) (tVar 0)) (hdb : (x == ("__debug__" : Str)) = false := by decide) : PE X (.Call (.Name x p) [.Name y q] [] pos) (tErrV val0 C) := by
  obtain ⟨fI, fd, T, F1, B⟩ := E.ini
  refine peW (pe_err T F1 hr B hg E.glo he (by rfl) hdb) fun σ H Q ⟨v, hv, k⟩ => ⟨v, hv, k⟩
theorem pe_eK (E : ErrOk X.prog X.w X.K X.mg X.base x C) (hr : Room 2 X.A) (hg : Gl X x) (he : PE X (.Name y q) (tVar 0)) (hdb : (x == ("__debug__" : Str)) = false := by decide) : PE X (.Call (.Name x p) [] [⟨some "value", .Name y q, kpos⟩] pos) (tErrV val0 C) := by
  obtain ⟨fI, fd, T, F1, B⟩ := E.ini
  refine peW (pe_errK T F1 hr B hg E.glo he hdb) fun σ H Q ⟨v, hv, k⟩ => ⟨v, hv, k⟩
theorem pe_e0 (E : ErrOk X.prog X.w X.K X.mg X.base x C) (hr : Room 2 X.A) (hg : Gl X x) (hdb : (x == ("__debug__" : Str)) = false := by decide) : PE X (.Call (.Name x p) [] [] pos) (tErrV valN C) := by
  obtain ⟨fI, fd, T, F1, B⟩ := E.ini
  refine peW (pe_err0 T F1 hr B hg E.glo hdb) fun σ H Q ⟨v, hv, k⟩ => ?_
  obtain rfl : v = V.non := hv
  exact k
end
/-! ### lists of errors -/
abbrev Errs (H : Hp) (v : V) (es Cs : List Addr) : Prop := Paired (fun e C => ErrAt H e C v) es Cs
theorem Errs.same {H H' : Hp} {v : V} {es Cs : List Addr} (s : Same H H') (h : Errs H v es Cs) : Errs H' v es Cs := Paired.mapP h fun _ _ z => z.same s
theorem Errs.app {H : Hp} {v : V} : ∀ {es Cs es' Cs' : List Addr}, Errs H v es Cs → Errs H v es' Cs' → Errs H v (es ++ es') (Cs ++ Cs')
  | _, _, _, _, .nil, h => h
  | _, _, _, _, .cons a t, h => .cons a (Errs.app t h)
def tErrs (val : L2.St → V → Prop) (Cs : List Addr) : TA := fun σ H Q => ∃ v, val σ v ∧ ∀ es H2, Same H H2 → Errs H2 v es Cs → Q (es.map V.ref) H2
section
variable {X : Cx} {C : Addr} {Cs : List Addr} {val : L2.St → V → Prop} {e : Expr} {es : List Expr}
theorem pa_e0 : PA X [] (tErrs val []) := paW pa_nil fun σ H Q ⟨v, _, k⟩ => k [] H (Same.refl H) .nil
theorem pa_e (h1 : PE X e (tErrV val C)) (h2 : PA X es (tErrs val Cs)) (hs : starEach (e :: es) X.env = (false, eval e X.env) :: starEach es X.env := by rfl) : PA X (e :: es) (tErrs val (C :: Cs)) :=
  paW (pa_cons h1 h2 hs) fun σ H Q ⟨v, hv, k⟩ => ⟨v, hv, fun e1 H2 _ s2 he => ⟨v, hv, fun es H3 s3 hes => k (e1 :: es) H3 (s2.trans s3) (.cons (he.same s3) hes)⟩⟩
/-- x = [..], x = x + [..] -/
def tFirst (j : Nat) (val : L2.St → V → Prop) (Cs : List Addr) : TS := fun D σ H => ∃ v, val σ v ∧ Cs.length ≤ 1000 ∧ ∀ L es H', H L = none → Same H H' → H' L = some (.lst (es.map V.ref)) → Errs H' v es Cs → D.nx (σ.set j (some (.ref L))) H'
def tMore (j : Nat) (val : L2.St → V → Prop) (Cs : List Addr) : TS := fun D σ H => ∃ v L es Ds, val σ v ∧ σ[j]? = some (some (.ref L)) ∧ H L = some (.lst (es.map V.ref)) ∧ Errs H v es Ds ∧ Ds.length + Cs.length ≤ 1000 ∧
  ∀ L' es' H', H L' = none → Same H H' → H' L' = some (.lst (es'.map V.ref)) → Errs H' v es' (Ds ++ Cs) → D.nx (σ.set j (some (.ref L'))) H'
theorem same_new {H : Hp} {p : Addr} {o : HO} (n : H p = none) : Same H (upd H p o) := fun b u z => by
  rw [upd_ne (ne_of_none z n)]
  exact z
theorem ps_first {j : Nat} {x : Str} {pos pos' lp : Pos} (hN : X.N.Nodup) (hi : X.N[j]? = some x) (hx : Loc X.env.scope x) (ha : PA X es (tErrs val Cs)) (hs : swapsWith (.List es lp) (some (.Name x pos')) pos.line X.env = pure false := by rfl) (hf : X.fn x = true ∨ X.env.scope.names.lookup x = some .local := by exact .inl rfl) :
    PS X (.Assign [.Name x pos'] (.List es lp) pos) (tFirst j val Cs) :=
  psW (ps_set hN hi hx (pe_lst ha) hs hf) fun D σ H ⟨v, hv, hl, k⟩ => ⟨v, hv, fun es H2 s2 hes => ⟨by
    rw [List.length_map, Paired.length hes]
    exact Nat.le_of_lt (small1000 hl), fun p np => k p es _ (s2.free np) (s2.trans (same_new np)) upd_same (hes.same (same_new np))⟩⟩
theorem ps_more {j : Nat} {x : Str} {pos pos' pos2 pos3 lp : Pos} (hN : X.N.Nodup) (hi : X.N[j]? = some x) (hx : Loc X.env.scope x) (hv : PE X (.Name x pos2) (tVar j)) (ha : PA X es (tErrs val Cs)) (hs : swapsWith (.BinOp (.Name x pos2) .Add (.List es lp) pos3) (some (.Name x pos')) pos.line X.env = pure false := by rfl) (hf : X.fn x = true ∨ X.env.scope.names.lookup x = some .local := by exact .inl rfl) :
    PS X (.Assign [.Name x pos'] (.BinOp (.Name x pos2) .Add (.List es lp) pos3) pos) (tMore j val Cs) :=
  psW (ps_set hN hi hx (pe_op op_cat hv (pe_lst ha)) hs hf) fun D σ H ⟨v, L, es, Ds, hv, hL, h1, h2, hl, k⟩ => ⟨_, hL, v, hv, fun es' H2 s2 hes => by
    have l1 : es.length = Ds.length := Paired.length h2
    have l2 : es'.length = Cs.length := Paired.length hes
    refine ⟨?_, fun p np => ?_⟩
    · rw [List.length_map, l2]
      exact Nat.le_of_lt (small1000 (by omega))
    · have s3 := s2.trans (same_new (o := .lst (es'.map V.ref)) np)
      refine ⟨L, p, _, _, rfl, rfl, s3 _ _ h1, upd_same, ?_, fun r nr => ?_⟩
      · rw [List.length_map, List.length_map]
        exact Nat.le_of_lt (small1000 (by omega))
      · have s4 := s3.trans (same_new (o := .lst (es.map V.ref ++ es'.map V.ref)) nr)
        refine k r (es ++ es') _ (s3.free nr) s4 (by rw [upd_same, List.map_append]) ?_
        exact Errs.app (h2.same s4) (hes.same ((same_new np).trans (same_new nr)))⟩
end
/-- the promise: 29 new errors of the thing -/
def spErrs (val : List V → V → Prop) (n : Nat) (Cs : List Addr) : Sp := fun vs H Q _ => ∃ v, vs.length = n ∧ val vs v ∧ ∀ L es H', H L = none → Same H H' → H' L = some (.lst (es.map V.ref)) → Errs H' v es Cs → Q (.ref L) H'
end Yt

set_option Elab.async false
set_option linter.all false
set_option maxRecDepth 100000
set_option maxHeartbeats 4000000
namespace Yt
open PySem PySem.Spec PyProof.Rows L2
/-- the classes with a field, in the law's order -/
def fieldNames : List Str := ["InvalidMarks", "InvalidWidth", "InvalidRows", "InvalidTable", "InvalidSpots", "InvalidWay", "InvalidOrder", "InvalidBook", "InvalidName", "InvalidPlaces", "InvalidPlace", "InvalidWishes", "InvalidNet", "InvalidFilling", "InvalidChoice", "InvalidMap", "InvalidStrikes", "InvalidSteps", "InvalidNumber", "InvalidDues", "InvalidChanges", "InvalidDesk", "InvalidSpot", "InvalidScript", "InvalidText", "InvalidRecord", "Unlike", "Unmajored", "Refused"]
abbrev CsOf (K : PySem.W.Frag) (l : List Str) : List Addr := l.map (He.ga K)

theorem sc_first : FnScope ["_law_thing", "_law_found"] ["_law_thing"] (defScope sFirst) := ⟨rfl, rfl, rfl, by decide +kernel, rfl, by decide +kernel, by decide +kernel⟩
theorem ok_first {P : Program} {w : World} {K : PySem.W.Frag} {mg : Str → Option Value} {base : Heap} {f : Addr} {fd : FuncData} (F : FnP K "_law_first" sFirst f fd) (E : ∀ x ∈ fieldNames, ErrOk P w K mg base x (He.ga K x)) :
    FnOk P w K mg base CX0 3 f fd ["_law_thing"] (spErrs (fun vs v => vs = [v]) 1 (CsOf K fieldNames)) := by
  have EInvalidMarks : ErrOk P w K mg base "InvalidMarks" (He.ga K "InvalidMarks") := E _ (by decide)
  have EInvalidWidth : ErrOk P w K mg base "InvalidWidth" (He.ga K "InvalidWidth") := E _ (by decide)
  have EInvalidRows : ErrOk P w K mg base "InvalidRows" (He.ga K "InvalidRows") := E _ (by decide)
  have EInvalidTable : ErrOk P w K mg base "InvalidTable" (He.ga K "InvalidTable") := E _ (by decide)
  have EInvalidSpots : ErrOk P w K mg base "InvalidSpots" (He.ga K "InvalidSpots") := E _ (by decide)
  have EInvalidWay : ErrOk P w K mg base "InvalidWay" (He.ga K "InvalidWay") := E _ (by decide)
  have EInvalidOrder : ErrOk P w K mg base "InvalidOrder" (He.ga K "InvalidOrder") := E _ (by decide)
  have EInvalidBook : ErrOk P w K mg base "InvalidBook" (He.ga K "InvalidBook") := E _ (by decide)
  have EInvalidName : ErrOk P w K mg base "InvalidName" (He.ga K "InvalidName") := E _ (by decide)
  have EInvalidPlaces : ErrOk P w K mg base "InvalidPlaces" (He.ga K "InvalidPlaces") := E _ (by decide)
  have EInvalidPlace : ErrOk P w K mg base "InvalidPlace" (He.ga K "InvalidPlace") := E _ (by decide)
  have EInvalidWishes : ErrOk P w K mg base "InvalidWishes" (He.ga K "InvalidWishes") := E _ (by decide)
  have EInvalidNet : ErrOk P w K mg base "InvalidNet" (He.ga K "InvalidNet") := E _ (by decide)
  have EInvalidFilling : ErrOk P w K mg base "InvalidFilling" (He.ga K "InvalidFilling") := E _ (by decide)
  have EInvalidChoice : ErrOk P w K mg base "InvalidChoice" (He.ga K "InvalidChoice") := E _ (by decide)
  have EInvalidMap : ErrOk P w K mg base "InvalidMap" (He.ga K "InvalidMap") := E _ (by decide)
  have EInvalidStrikes : ErrOk P w K mg base "InvalidStrikes" (He.ga K "InvalidStrikes") := E _ (by decide)
  have EInvalidSteps : ErrOk P w K mg base "InvalidSteps" (He.ga K "InvalidSteps") := E _ (by decide)
  have EInvalidNumber : ErrOk P w K mg base "InvalidNumber" (He.ga K "InvalidNumber") := E _ (by decide)
  have EInvalidDues : ErrOk P w K mg base "InvalidDues" (He.ga K "InvalidDues") := E _ (by decide)
  have EInvalidChanges : ErrOk P w K mg base "InvalidChanges" (He.ga K "InvalidChanges") := E _ (by decide)
  have EInvalidDesk : ErrOk P w K mg base "InvalidDesk" (He.ga K "InvalidDesk") := E _ (by decide)
  have EInvalidSpot : ErrOk P w K mg base "InvalidSpot" (He.ga K "InvalidSpot") := E _ (by decide)
  have EInvalidScript : ErrOk P w K mg base "InvalidScript" (He.ga K "InvalidScript") := E _ (by decide)
  have EInvalidText : ErrOk P w K mg base "InvalidText" (He.ga K "InvalidText") := E _ (by decide)
  have EInvalidRecord : ErrOk P w K mg base "InvalidRecord" (He.ga K "InvalidRecord") := E _ (by decide)
  have EUnlike : ErrOk P w K mg base "Unlike" (He.ga K "Unlike") := E _ (by decide)
  have EUnmajored : ErrOk P w K mg base "Unmajored" (He.ga K "Unmajored") := E _ (by decide)
  have ERefused : ErrOk P w K mg base "Refused" (He.ga K "Refused") := E _ (by decide)
  refine F.ok sc_first (fun vs H Q E h => ?_) (fun cdv A outer s H vs Q E' hr h => ?_)
  · obtain ⟨v, hl, _⟩ := h
    exact hl
  · obtain ⟨v, hl, hv, k⟩ := h
    obtain ⟨u, rfl⟩ : ∃ u, vs = [u] := by
      match vs, hl with
      | [u], _ => exact ⟨u, rfl⟩
    obtain rfl : u = v := by cases hv; rfl
    refine ⟨_, PSs.nox (pss_cons (ps_first (j := 1) sc_first.nd rfl (Or.inl rfl) (pa_e (pe_e1 EInvalidMarks hr rfl (pv 0)) (pa_e (pe_e1 EInvalidWidth hr rfl (pv 0)) (pa_e (pe_e1 EInvalidRows hr rfl (pv 0)) (pa_e (pe_e1 EInvalidTable hr rfl (pv 0)) pa_e0)))))
      (pss_cons (ps_more (j := 1) sc_first.nd rfl (Or.inl rfl) (pv 1) (pa_e (pe_e1 EInvalidSpots hr rfl (pv 0)) (pa_e (pe_e1 EInvalidWay hr rfl (pv 0)) (pa_e (pe_e1 EInvalidOrder hr rfl (pv 0)) (pa_e (pe_e1 EInvalidBook hr rfl (pv 0)) pa_e0)))))
      (pss_cons (ps_more (j := 1) sc_first.nd rfl (Or.inl rfl) (pv 1) (pa_e (pe_e1 EInvalidName hr rfl (pv 0)) (pa_e (pe_e1 EInvalidPlaces hr rfl (pv 0)) (pa_e (pe_e1 EInvalidPlace hr rfl (pv 0)) (pa_e (pe_e1 EInvalidWishes hr rfl (pv 0)) pa_e0)))))
      (pss_cons (ps_more (j := 1) sc_first.nd rfl (Or.inl rfl) (pv 1) (pa_e (pe_e1 EInvalidNet hr rfl (pv 0)) (pa_e (pe_e1 EInvalidFilling hr rfl (pv 0)) (pa_e (pe_e1 EInvalidChoice hr rfl (pv 0)) (pa_e (pe_e1 EInvalidMap hr rfl (pv 0)) pa_e0)))))
      (pss_cons (ps_more (j := 1) sc_first.nd rfl (Or.inl rfl) (pv 1) (pa_e (pe_e1 EInvalidStrikes hr rfl (pv 0)) (pa_e (pe_e1 EInvalidSteps hr rfl (pv 0)) (pa_e (pe_e1 EInvalidNumber hr rfl (pv 0)) (pa_e (pe_e1 EInvalidDues hr rfl (pv 0)) pa_e0)))))
      (pss_cons (ps_more (j := 1) sc_first.nd rfl (Or.inl rfl) (pv 1) (pa_e (pe_e1 EInvalidChanges hr rfl (pv 0)) (pa_e (pe_e1 EInvalidDesk hr rfl (pv 0)) (pa_e (pe_e1 EInvalidSpot hr rfl (pv 0)) (pa_e (pe_e1 EInvalidScript hr rfl (pv 0)) pa_e0)))))
      (pss_cons (ps_more (j := 1) sc_first.nd rfl (Or.inl rfl) (pv 1) (pa_e (pe_e1 EInvalidText hr rfl (pv 0)) (pa_e (pe_e1 EInvalidRecord hr rfl (pv 0)) (pa_e (pe_e1 EUnlike hr rfl (pv 0)) (pa_e (pe_e1 EUnmajored hr rfl (pv 0)) (pa_e (pe_e1 ERefused hr rfl (pv 0)) pa_e0))))))
      (pss_one (ps_ret (pv 1)))))))))), ?_⟩
    refine ⟨_, rfl, (Nat.le_of_ble_eq_true (by rfl)), fun L0 es0 H0 n0 s0 h0 e0 => ?_⟩
    refine ⟨_, L0, es0, _, rfl, rfl, h0, e0, (Nat.le_of_ble_eq_true (by rfl)), fun L1 es1 H1 n1 s1 h1 e1 => ?_⟩
    refine ⟨_, L1, es1, _, rfl, rfl, h1, e1, (Nat.le_of_ble_eq_true (by rfl)), fun L2 es2 H2 n2 s2 h2 e2 => ?_⟩
    refine ⟨_, L2, es2, _, rfl, rfl, h2, e2, (Nat.le_of_ble_eq_true (by rfl)), fun L3 es3 H3 n3 s3 h3 e3 => ?_⟩
    refine ⟨_, L3, es3, _, rfl, rfl, h3, e3, (Nat.le_of_ble_eq_true (by rfl)), fun L4 es4 H4 n4 s4 h4 e4 => ?_⟩
    refine ⟨_, L4, es4, _, rfl, rfl, h4, e4, (Nat.le_of_ble_eq_true (by rfl)), fun L5 es5 H5 n5 s5 h5 e5 => ?_⟩
    refine ⟨_, L5, es5, _, rfl, rfl, h5, e5, (Nat.le_of_ble_eq_true (by rfl)), fun L6 es6 H6 n6 s6 h6 e6 => ?_⟩
    exact ⟨_, rfl, k L6 es6 H6 ((((((s0.trans s1).trans s2).trans s3).trans s4).trans s5).free n6) ((((((s0.trans s1).trans s2).trans s3).trans s4).trans s5).trans s6) h6 (by simpa only [CsOf, fieldNames, List.map_cons, List.map_nil, List.cons_append, List.nil_append, List.map_append, List.append_assoc] using e6)⟩

theorem sc_called : FnScope ["_law_thing", "_law_found"] ["_law_thing"] (defScope sCalled) := ⟨rfl, rfl, rfl, by decide +kernel, rfl, by decide +kernel, by decide +kernel⟩
theorem ok_called {P : Program} {w : World} {K : PySem.W.Frag} {mg : Str → Option Value} {base : Heap} {f : Addr} {fd : FuncData} (F : FnP K "_law_called" sCalled f fd) (E : ∀ x ∈ fieldNames, ErrOk P w K mg base x (He.ga K x)) :
    FnOk P w K mg base CX0 3 f fd ["_law_thing"] (spErrs (fun vs v => vs = [v]) 1 (CsOf K fieldNames)) := by
  have EInvalidMarks : ErrOk P w K mg base "InvalidMarks" (He.ga K "InvalidMarks") := E _ (by decide)
  have EInvalidWidth : ErrOk P w K mg base "InvalidWidth" (He.ga K "InvalidWidth") := E _ (by decide)
  have EInvalidRows : ErrOk P w K mg base "InvalidRows" (He.ga K "InvalidRows") := E _ (by decide)
  have EInvalidTable : ErrOk P w K mg base "InvalidTable" (He.ga K "InvalidTable") := E _ (by decide)
  have EInvalidSpots : ErrOk P w K mg base "InvalidSpots" (He.ga K "InvalidSpots") := E _ (by decide)
  have EInvalidWay : ErrOk P w K mg base "InvalidWay" (He.ga K "InvalidWay") := E _ (by decide)
  have EInvalidOrder : ErrOk P w K mg base "InvalidOrder" (He.ga K "InvalidOrder") := E _ (by decide)
  have EInvalidBook : ErrOk P w K mg base "InvalidBook" (He.ga K "InvalidBook") := E _ (by decide)
  have EInvalidName : ErrOk P w K mg base "InvalidName" (He.ga K "InvalidName") := E _ (by decide)
  have EInvalidPlaces : ErrOk P w K mg base "InvalidPlaces" (He.ga K "InvalidPlaces") := E _ (by decide)
  have EInvalidPlace : ErrOk P w K mg base "InvalidPlace" (He.ga K "InvalidPlace") := E _ (by decide)
  have EInvalidWishes : ErrOk P w K mg base "InvalidWishes" (He.ga K "InvalidWishes") := E _ (by decide)
  have EInvalidNet : ErrOk P w K mg base "InvalidNet" (He.ga K "InvalidNet") := E _ (by decide)
  have EInvalidFilling : ErrOk P w K mg base "InvalidFilling" (He.ga K "InvalidFilling") := E _ (by decide)
  have EInvalidChoice : ErrOk P w K mg base "InvalidChoice" (He.ga K "InvalidChoice") := E _ (by decide)
  have EInvalidMap : ErrOk P w K mg base "InvalidMap" (He.ga K "InvalidMap") := E _ (by decide)
  have EInvalidStrikes : ErrOk P w K mg base "InvalidStrikes" (He.ga K "InvalidStrikes") := E _ (by decide)
  have EInvalidSteps : ErrOk P w K mg base "InvalidSteps" (He.ga K "InvalidSteps") := E _ (by decide)
  have EInvalidNumber : ErrOk P w K mg base "InvalidNumber" (He.ga K "InvalidNumber") := E _ (by decide)
  have EInvalidDues : ErrOk P w K mg base "InvalidDues" (He.ga K "InvalidDues") := E _ (by decide)
  have EInvalidChanges : ErrOk P w K mg base "InvalidChanges" (He.ga K "InvalidChanges") := E _ (by decide)
  have EInvalidDesk : ErrOk P w K mg base "InvalidDesk" (He.ga K "InvalidDesk") := E _ (by decide)
  have EInvalidSpot : ErrOk P w K mg base "InvalidSpot" (He.ga K "InvalidSpot") := E _ (by decide)
  have EInvalidScript : ErrOk P w K mg base "InvalidScript" (He.ga K "InvalidScript") := E _ (by decide)
  have EInvalidText : ErrOk P w K mg base "InvalidText" (He.ga K "InvalidText") := E _ (by decide)
  have EInvalidRecord : ErrOk P w K mg base "InvalidRecord" (He.ga K "InvalidRecord") := E _ (by decide)
  have EUnlike : ErrOk P w K mg base "Unlike" (He.ga K "Unlike") := E _ (by decide)
  have EUnmajored : ErrOk P w K mg base "Unmajored" (He.ga K "Unmajored") := E _ (by decide)
  have ERefused : ErrOk P w K mg base "Refused" (He.ga K "Refused") := E _ (by decide)
  refine F.ok sc_called (fun vs H Q E h => ?_) (fun cdv A outer s H vs Q E' hr h => ?_)
  · obtain ⟨v, hl, _⟩ := h
    exact hl
  · obtain ⟨v, hl, hv, k⟩ := h
    obtain ⟨u, rfl⟩ : ∃ u, vs = [u] := by
      match vs, hl with
      | [u], _ => exact ⟨u, rfl⟩
    obtain rfl : u = v := by cases hv; rfl
    refine ⟨_, PSs.nox (pss_cons (ps_first (j := 1) sc_called.nd rfl (Or.inl rfl) (pa_e (pe_eK EInvalidMarks hr rfl (pv 0)) (pa_e (pe_eK EInvalidWidth hr rfl (pv 0)) (pa_e (pe_eK EInvalidRows hr rfl (pv 0)) pa_e0))))
      (pss_cons (ps_more (j := 1) sc_called.nd rfl (Or.inl rfl) (pv 1) (pa_e (pe_eK EInvalidTable hr rfl (pv 0)) (pa_e (pe_eK EInvalidSpots hr rfl (pv 0)) (pa_e (pe_eK EInvalidWay hr rfl (pv 0)) pa_e0))))
      (pss_cons (ps_more (j := 1) sc_called.nd rfl (Or.inl rfl) (pv 1) (pa_e (pe_eK EInvalidOrder hr rfl (pv 0)) (pa_e (pe_eK EInvalidBook hr rfl (pv 0)) (pa_e (pe_eK EInvalidName hr rfl (pv 0)) pa_e0))))
      (pss_cons (ps_more (j := 1) sc_called.nd rfl (Or.inl rfl) (pv 1) (pa_e (pe_eK EInvalidPlaces hr rfl (pv 0)) (pa_e (pe_eK EInvalidPlace hr rfl (pv 0)) (pa_e (pe_eK EInvalidWishes hr rfl (pv 0)) pa_e0))))
      (pss_cons (ps_more (j := 1) sc_called.nd rfl (Or.inl rfl) (pv 1) (pa_e (pe_eK EInvalidNet hr rfl (pv 0)) (pa_e (pe_eK EInvalidFilling hr rfl (pv 0)) (pa_e (pe_eK EInvalidChoice hr rfl (pv 0)) pa_e0))))
      (pss_cons (ps_more (j := 1) sc_called.nd rfl (Or.inl rfl) (pv 1) (pa_e (pe_eK EInvalidMap hr rfl (pv 0)) (pa_e (pe_eK EInvalidStrikes hr rfl (pv 0)) (pa_e (pe_eK EInvalidSteps hr rfl (pv 0)) pa_e0))))
      (pss_cons (ps_more (j := 1) sc_called.nd rfl (Or.inl rfl) (pv 1) (pa_e (pe_eK EInvalidNumber hr rfl (pv 0)) (pa_e (pe_eK EInvalidDues hr rfl (pv 0)) (pa_e (pe_eK EInvalidChanges hr rfl (pv 0)) pa_e0))))
      (pss_cons (ps_more (j := 1) sc_called.nd rfl (Or.inl rfl) (pv 1) (pa_e (pe_eK EInvalidDesk hr rfl (pv 0)) (pa_e (pe_eK EInvalidSpot hr rfl (pv 0)) (pa_e (pe_eK EInvalidScript hr rfl (pv 0)) pa_e0))))
      (pss_cons (ps_more (j := 1) sc_called.nd rfl (Or.inl rfl) (pv 1) (pa_e (pe_eK EInvalidText hr rfl (pv 0)) (pa_e (pe_eK EInvalidRecord hr rfl (pv 0)) (pa_e (pe_eK EUnlike hr rfl (pv 0)) pa_e0))))
      (pss_cons (ps_more (j := 1) sc_called.nd rfl (Or.inl rfl) (pv 1) (pa_e (pe_eK EUnmajored hr rfl (pv 0)) (pa_e (pe_eK ERefused hr rfl (pv 0)) pa_e0)))
      (pss_one (ps_ret (pv 1))))))))))))), ?_⟩
    refine ⟨_, rfl, (Nat.le_of_ble_eq_true (by rfl)), fun L0 es0 H0 n0 s0 h0 e0 => ?_⟩
    refine ⟨_, L0, es0, _, rfl, rfl, h0, e0, (Nat.le_of_ble_eq_true (by rfl)), fun L1 es1 H1 n1 s1 h1 e1 => ?_⟩
    refine ⟨_, L1, es1, _, rfl, rfl, h1, e1, (Nat.le_of_ble_eq_true (by rfl)), fun L2 es2 H2 n2 s2 h2 e2 => ?_⟩
    refine ⟨_, L2, es2, _, rfl, rfl, h2, e2, (Nat.le_of_ble_eq_true (by rfl)), fun L3 es3 H3 n3 s3 h3 e3 => ?_⟩
    refine ⟨_, L3, es3, _, rfl, rfl, h3, e3, (Nat.le_of_ble_eq_true (by rfl)), fun L4 es4 H4 n4 s4 h4 e4 => ?_⟩
    refine ⟨_, L4, es4, _, rfl, rfl, h4, e4, (Nat.le_of_ble_eq_true (by rfl)), fun L5 es5 H5 n5 s5 h5 e5 => ?_⟩
    refine ⟨_, L5, es5, _, rfl, rfl, h5, e5, (Nat.le_of_ble_eq_true (by rfl)), fun L6 es6 H6 n6 s6 h6 e6 => ?_⟩
    refine ⟨_, L6, es6, _, rfl, rfl, h6, e6, (Nat.le_of_ble_eq_true (by rfl)), fun L7 es7 H7 n7 s7 h7 e7 => ?_⟩
    refine ⟨_, L7, es7, _, rfl, rfl, h7, e7, (Nat.le_of_ble_eq_true (by rfl)), fun L8 es8 H8 n8 s8 h8 e8 => ?_⟩
    refine ⟨_, L8, es8, _, rfl, rfl, h8, e8, (Nat.le_of_ble_eq_true (by rfl)), fun L9 es9 H9 n9 s9 h9 e9 => ?_⟩
    exact ⟨_, rfl, k L9 es9 H9 (((((((((s0.trans s1).trans s2).trans s3).trans s4).trans s5).trans s6).trans s7).trans s8).free n9) (((((((((s0.trans s1).trans s2).trans s3).trans s4).trans s5).trans s6).trans s7).trans s8).trans s9) h9 (by simpa only [CsOf, fieldNames, List.map_cons, List.map_nil, List.cons_append, List.nil_append, List.map_append, List.append_assoc] using e9)⟩

theorem sc_bare : FnScope ["_law_found"] [] (defScope sBare) := ⟨rfl, rfl, rfl, by decide +kernel, rfl, by decide +kernel, by decide +kernel⟩
theorem ok_bare {P : Program} {w : World} {K : PySem.W.Frag} {mg : Str → Option Value} {base : Heap} {f : Addr} {fd : FuncData} (F : FnP K "_law_bare" sBare f fd) (E : ∀ x ∈ fieldNames, ErrOk P w K mg base x (He.ga K x)) :
    FnOk P w K mg base CX0 3 f fd [] (spErrs (fun _ v => v = V.non) 0 (CsOf K fieldNames)) := by
  have EInvalidMarks : ErrOk P w K mg base "InvalidMarks" (He.ga K "InvalidMarks") := E _ (by decide)
  have EInvalidWidth : ErrOk P w K mg base "InvalidWidth" (He.ga K "InvalidWidth") := E _ (by decide)
  have EInvalidRows : ErrOk P w K mg base "InvalidRows" (He.ga K "InvalidRows") := E _ (by decide)
  have EInvalidTable : ErrOk P w K mg base "InvalidTable" (He.ga K "InvalidTable") := E _ (by decide)
  have EInvalidSpots : ErrOk P w K mg base "InvalidSpots" (He.ga K "InvalidSpots") := E _ (by decide)
  have EInvalidWay : ErrOk P w K mg base "InvalidWay" (He.ga K "InvalidWay") := E _ (by decide)
  have EInvalidOrder : ErrOk P w K mg base "InvalidOrder" (He.ga K "InvalidOrder") := E _ (by decide)
  have EInvalidBook : ErrOk P w K mg base "InvalidBook" (He.ga K "InvalidBook") := E _ (by decide)
  have EInvalidName : ErrOk P w K mg base "InvalidName" (He.ga K "InvalidName") := E _ (by decide)
  have EInvalidPlaces : ErrOk P w K mg base "InvalidPlaces" (He.ga K "InvalidPlaces") := E _ (by decide)
  have EInvalidPlace : ErrOk P w K mg base "InvalidPlace" (He.ga K "InvalidPlace") := E _ (by decide)
  have EInvalidWishes : ErrOk P w K mg base "InvalidWishes" (He.ga K "InvalidWishes") := E _ (by decide)
  have EInvalidNet : ErrOk P w K mg base "InvalidNet" (He.ga K "InvalidNet") := E _ (by decide)
  have EInvalidFilling : ErrOk P w K mg base "InvalidFilling" (He.ga K "InvalidFilling") := E _ (by decide)
  have EInvalidChoice : ErrOk P w K mg base "InvalidChoice" (He.ga K "InvalidChoice") := E _ (by decide)
  have EInvalidMap : ErrOk P w K mg base "InvalidMap" (He.ga K "InvalidMap") := E _ (by decide)
  have EInvalidStrikes : ErrOk P w K mg base "InvalidStrikes" (He.ga K "InvalidStrikes") := E _ (by decide)
  have EInvalidSteps : ErrOk P w K mg base "InvalidSteps" (He.ga K "InvalidSteps") := E _ (by decide)
  have EInvalidNumber : ErrOk P w K mg base "InvalidNumber" (He.ga K "InvalidNumber") := E _ (by decide)
  have EInvalidDues : ErrOk P w K mg base "InvalidDues" (He.ga K "InvalidDues") := E _ (by decide)
  have EInvalidChanges : ErrOk P w K mg base "InvalidChanges" (He.ga K "InvalidChanges") := E _ (by decide)
  have EInvalidDesk : ErrOk P w K mg base "InvalidDesk" (He.ga K "InvalidDesk") := E _ (by decide)
  have EInvalidSpot : ErrOk P w K mg base "InvalidSpot" (He.ga K "InvalidSpot") := E _ (by decide)
  have EInvalidScript : ErrOk P w K mg base "InvalidScript" (He.ga K "InvalidScript") := E _ (by decide)
  have EInvalidText : ErrOk P w K mg base "InvalidText" (He.ga K "InvalidText") := E _ (by decide)
  have EInvalidRecord : ErrOk P w K mg base "InvalidRecord" (He.ga K "InvalidRecord") := E _ (by decide)
  have EUnlike : ErrOk P w K mg base "Unlike" (He.ga K "Unlike") := E _ (by decide)
  have EUnmajored : ErrOk P w K mg base "Unmajored" (He.ga K "Unmajored") := E _ (by decide)
  have ERefused : ErrOk P w K mg base "Refused" (He.ga K "Refused") := E _ (by decide)
  refine F.ok sc_bare (fun vs H Q E h => ?_) (fun cdv A outer s H vs Q E' hr h => ?_)
  · obtain ⟨v, hl, _⟩ := h
    exact hl
  · obtain ⟨v, hl, hv, k⟩ := h
    obtain rfl : vs = [] := List.eq_nil_of_length_eq_zero hl
    obtain rfl : v = V.non := hv
    refine ⟨_, PSs.nox (pss_cons (ps_first (j := 0) sc_bare.nd rfl (Or.inl rfl) (pa_e (pe_e0 EInvalidMarks hr rfl) (pa_e (pe_e0 EInvalidWidth hr rfl) (pa_e (pe_e0 EInvalidRows hr rfl) (pa_e (pe_e0 EInvalidTable hr rfl) (pa_e (pe_e0 EInvalidSpots hr rfl) (pa_e (pe_e0 EInvalidWay hr rfl) pa_e0)))))))
      (pss_cons (ps_more (j := 0) sc_bare.nd rfl (Or.inl rfl) (pv 0) (pa_e (pe_e0 EInvalidOrder hr rfl) (pa_e (pe_e0 EInvalidBook hr rfl) (pa_e (pe_e0 EInvalidName hr rfl) (pa_e (pe_e0 EInvalidPlaces hr rfl) (pa_e (pe_e0 EInvalidPlace hr rfl) pa_e0))))))
      (pss_cons (ps_more (j := 0) sc_bare.nd rfl (Or.inl rfl) (pv 0) (pa_e (pe_e0 EInvalidWishes hr rfl) (pa_e (pe_e0 EInvalidNet hr rfl) (pa_e (pe_e0 EInvalidFilling hr rfl) (pa_e (pe_e0 EInvalidChoice hr rfl) (pa_e (pe_e0 EInvalidMap hr rfl) pa_e0))))))
      (pss_cons (ps_more (j := 0) sc_bare.nd rfl (Or.inl rfl) (pv 0) (pa_e (pe_e0 EInvalidStrikes hr rfl) (pa_e (pe_e0 EInvalidSteps hr rfl) (pa_e (pe_e0 EInvalidNumber hr rfl) (pa_e (pe_e0 EInvalidDues hr rfl) (pa_e (pe_e0 EInvalidChanges hr rfl) pa_e0))))))
      (pss_cons (ps_more (j := 0) sc_bare.nd rfl (Or.inl rfl) (pv 0) (pa_e (pe_e0 EInvalidDesk hr rfl) (pa_e (pe_e0 EInvalidSpot hr rfl) (pa_e (pe_e0 EInvalidScript hr rfl) (pa_e (pe_e0 EInvalidText hr rfl) (pa_e (pe_e0 EInvalidRecord hr rfl) (pa_e (pe_e0 EUnlike hr rfl) pa_e0)))))))
      (pss_cons (ps_more (j := 0) sc_bare.nd rfl (Or.inl rfl) (pv 0) (pa_e (pe_e0 EUnmajored hr rfl) (pa_e (pe_e0 ERefused hr rfl) pa_e0)))
      (pss_one (ps_ret (pv 0))))))))), ?_⟩
    refine ⟨_, rfl, (Nat.le_of_ble_eq_true (by rfl)), fun L0 es0 H0 n0 s0 h0 e0 => ?_⟩
    refine ⟨_, L0, es0, _, rfl, rfl, h0, e0, (Nat.le_of_ble_eq_true (by rfl)), fun L1 es1 H1 n1 s1 h1 e1 => ?_⟩
    refine ⟨_, L1, es1, _, rfl, rfl, h1, e1, (Nat.le_of_ble_eq_true (by rfl)), fun L2 es2 H2 n2 s2 h2 e2 => ?_⟩
    refine ⟨_, L2, es2, _, rfl, rfl, h2, e2, (Nat.le_of_ble_eq_true (by rfl)), fun L3 es3 H3 n3 s3 h3 e3 => ?_⟩
    refine ⟨_, L3, es3, _, rfl, rfl, h3, e3, (Nat.le_of_ble_eq_true (by rfl)), fun L4 es4 H4 n4 s4 h4 e4 => ?_⟩
    refine ⟨_, L4, es4, _, rfl, rfl, h4, e4, (Nat.le_of_ble_eq_true (by rfl)), fun L5 es5 H5 n5 s5 h5 e5 => ?_⟩
    exact ⟨_, rfl, k L5 es5 H5 (((((s0.trans s1).trans s2).trans s3).trans s4).free n5) (((((s0.trans s1).trans s2).trans s3).trans s4).trans s5) h5 (by simpa only [CsOf, fieldNames, List.map_cons, List.map_nil, List.cons_append, List.nil_append, List.map_append, List.append_assoc] using e5)⟩
end Yt

set_option Elab.async false
set_option linter.all false
set_option maxRecDepth 100000
set_option maxHeartbeats 600000
namespace Yt
open PySem PySem.Spec PyProof.Rows L2
def allNames : List Str := fieldNames ++ (["NothingToUndo", "NothingToRedo"] : List Str)
def srcNames : List Str := allNames ++ (["PairError"] : List Str)
theorem ErrIs.same {H H' : Hp} {a C : Addr} (s : Same H H') (h : ErrIs H a C) : ErrIs H' a C := by
  rcases h with ⟨v, h⟩ | h
  · exact .inl ⟨v, h.same s⟩
  · exact .inr (s _ _ h)
/-- what isinstance is asked: the class x stands, of each error's class it is known whether it is x -/
structure IsOk (K : PySem.W.Frag) (mg : Str → Option Value) (x : Str) : Prop where
  glo : mg x = some (.ref (He.ga K x))
  kit : ∀ y ∈ srcNames, PySem.W.kitOne K (.ref (He.ga K y)) (.ref (He.ga K x)) = some (decide (y = x))
structure Nm2 (K : PySem.W.Frag) (mg : Str → Option Value) : Prop where
  isi : mg "isinstance" = none
  ve : mg "ValueError" = none
  range : mg "range" = none
  len : mg "len" = none
  ec : ∀ y ∈ srcNames, ExcC K (He.ga K y)
def tIs (K : PySem.W.Frag) (x : Str) : TE := fun σ H Q => ∃ e y, σ[0]? = some (some (.ref e)) ∧ ErrIs H e (He.ga K y) ∧ y ∈ srcNames ∧ Q (.bl (decide (y = x))) H
def tIss (K : PySem.W.Frag) (xs : List Str) : TA := fun σ H Q => ∃ e y, σ[0]? = some (some (.ref e)) ∧ ErrIs H e (He.ga K y) ∧ y ∈ srcNames ∧ Q (xs.map fun x => .bl (decide (y = x))) H
section
variable {X : Cx} {x y : Str} {xs : List Str} {p q q2 pos : Pos} {e : Expr} {es : List Expr}
theorem pe_is (E : IsOk X.K X.mg x) (T : Nm2 X.K X.mg) (hg : Gl X "isinstance") (he : PE X (.Name y q) (tVar 0)) (hx : Gl X x) (hd : (x == ("__debug__" : Str)) = false := by decide)
    (hs1 : starEach [.Name y q, .Name x q2] X.env = (false, eval (.Name y q) X.env) :: starEach [.Name x q2] X.env := by rfl) (hs2 : starEach [Expr.Name x q2] X.env = (false, eval (.Name x q2) X.env) :: starEach [] X.env := by rfl) :
    PE X (.Call (.Name "isinstance" p) [.Name y q, .Name x q2] [] pos) (tIs X.K x) :=
  peW (pe_callB call_isErr hg T.isi (by decide +kernel) (pa_cons he (pa_cons (pe_glob (v := .ref (He.ga X.K x)) hx E.glo rfl hd) pa_nil hs2) hs1)) fun σ H Q ⟨e, z, h1, h2, h3, k⟩ =>
    ⟨_, h1, e, _, _, _, _, rfl, h2, T.ec z h3, fun u hu => hu, E.kit z h3, k⟩
theorem pa_i0 : PA X [] (tIss X.K []) := paW pa_nil fun σ H Q ⟨_, _, _, _, _, k⟩ => k
theorem pa_i (h1 : PE X e (tIs X.K x)) (h2 : PA X es (tIss X.K xs)) (hs : starEach (e :: es) X.env = (false, eval e X.env) :: starEach es X.env := by rfl) : PA X (e :: es) (tIss X.K (x :: xs)) :=
  paW (pa_cons h1 h2 hs) fun σ H Q ⟨e, z, a, b, c, k⟩ => ⟨e, z, a, b, c, e, z, a, b, c, k⟩
def tFirstB (K : PySem.W.Frag) (xs : List Str) : TS := fun D σ H => ∃ e y u r, σ = some (.ref e) :: u :: r ∧ ErrIs H e (He.ga K y) ∧ y ∈ srcNames ∧ xs.length ≤ 1000 ∧ ∀ L H', Same H H' → H' L = some (.lst (xs.map fun x => .bl (decide (y = x)))) → D.nx (some (.ref e) :: some (.ref L) :: r) H'
def tMoreB (K : PySem.W.Frag) (xs : List Str) : TS := fun D σ H => ∃ e y L ys r, σ = some (.ref e) :: some (.ref L) :: r ∧ ErrIs H e (He.ga K y) ∧ y ∈ srcNames ∧ H L = some (.lst (ys.map fun x => .bl (decide (y = x)))) ∧ ys.length + xs.length ≤ 1000 ∧
  ∀ L' H', Same H H' → H' L' = some (.lst ((ys ++ xs).map fun x => .bl (decide (y = x)))) → D.nx (some (.ref e) :: some (.ref L') :: r) H'
theorem ps_firstB {x : Str} {pos pos' lp : Pos} (hN : X.N.Nodup) (hi : X.N[1]? = some x) (hx : Loc X.env.scope x) (ha : PA X es (tIss X.K xs)) (hs : swapsWith (.List es lp) (some (.Name x pos')) pos.line X.env = pure false := by rfl) (hf : X.fn x = true ∨ X.env.scope.names.lookup x = some .local := by exact .inl rfl) :
    PS X (.Assign [.Name x pos'] (.List es lp) pos) (tFirstB X.K xs) :=
  psW (ps_set hN hi hx (pe_lst ha) hs hf) fun D σ H ⟨e, y, u, r, h1, h2, h3, hl, k⟩ => ⟨e, y, by rw [h1] <;> rfl, h2, h3, by
    rw [List.length_map]
    exact Nat.le_of_lt (small1000 hl), fun p np => by
    rw [h1]
    exact k p _ (same_new np) upd_same⟩
theorem ps_moreB {x : Str} {pos pos' pos2 pos3 lp : Pos} (hN : X.N.Nodup) (hi : X.N[1]? = some x) (hx : Loc X.env.scope x) (hv : PE X (.Name x pos2) (tVar 1)) (ha : PA X es (tIss X.K xs)) (hs : swapsWith (.BinOp (.Name x pos2) .Add (.List es lp) pos3) (some (.Name x pos')) pos.line X.env = pure false := by rfl) (hf : X.fn x = true ∨ X.env.scope.names.lookup x = some .local := by exact .inl rfl) :
    PS X (.Assign [.Name x pos'] (.BinOp (.Name x pos2) .Add (.List es lp) pos3) pos) (tMoreB X.K xs) :=
  psW (ps_set hN hi hx (pe_op op_cat hv (pe_lst ha)) hs hf) fun D σ H ⟨e, y, L, ys, r, h1, h2, h3, hH, hl, k⟩ => ⟨.ref L, by rw [h1] <;> rfl, e, y, by rw [h1] <;> rfl, h2, h3, by
    refine ⟨?_, fun p np => ?_⟩
    · rw [List.length_map]
      exact Nat.le_of_lt (small1000 (by omega))
    · refine ⟨L, p, _, _, rfl, rfl, same_new np _ _ hH, upd_same, ?_, fun q nq => ?_⟩
      · rw [List.length_map, List.length_map]
        exact Nat.le_of_lt (small1000 (by omega))
      · rw [h1]
        exact k q _ ((same_new np).trans (same_new nq)) (by rw [upd_same, List.map_append])⟩
end
/-- where a class's name stands -/
def codes (y : Str) (n : Nat) : List Nat := (List.range n).filter fun i => decide (allNames[i]? = some y)
theorem len31 : allNames.length = 31 := rfl
theorem bools_at {l : List Str} {y : Str} {i : Nat} (h : i < l.length) : (l.map fun x => V.bl (decide (y = x)))[i]? = some (.bl (decide (l[i]? = some y))) := by
  rw [List.getElem?_map, List.getElem?_eq_getElem h]
  by_cases e : y = l[i]
  · have e2 : some l[i] = some y := congrArg some e.symm
    rw [decide_eq_true e2]
    show some (V.bl (decide (y = l[i]))) = _
    rw [decide_eq_true e]
  · have e2 : ¬ some l[i] = some y := fun z => e (Option.some.inj z).symm
    rw [decide_eq_false e2]
    show some (V.bl (decide (y = l[i]))) = _
    rw [decide_eq_false e]
theorem codes_more (y : Str) (i : Nat) : codes y (i + 1) = codes y i ++ (if decide (allNames[i]? = some y) = true then [i] else []) := by
  unfold codes
  rw [List.range_succ, List.filter_append]
  simp only [List.filter_cons, List.filter_nil]
def spCode (K : PySem.W.Frag) : Sp := fun vs H Q _ => ∃ e y, vs = [.ref e] ∧ ErrIs H e (He.ga K y) ∧ y ∈ srcNames ∧ ∀ L H', H L = none → Same H H' → H' L = some (.lst ((codes y 31).map fun i => V.int (i : Nat))) → Q (.ref L) H'
theorem scCode : FnScope ["_law_error", "_law_found", "_law_at"] ["_law_error"] (defScope sCode) := ⟨rfl, rfl, rfl, by decide +kernel, rfl, by decide +kernel, by decide +kernel⟩
theorem ok_code {P : Program} {w : World} {K : PySem.W.Frag} {mg : Str → Option Value} {base : Heap} {f : Addr} {fd : FuncData} (F : FnP K "_law_code" sCode f fd) (T : Nm2 K mg) (E : ∀ x ∈ allNames, IsOk K mg x) :
    FnOk P w K mg base CX0 1 f fd ["_law_error"] (spCode K) := by
  have EInvalidMarks : IsOk K mg "InvalidMarks" := E _ (by decide)
  have EInvalidWidth : IsOk K mg "InvalidWidth" := E _ (by decide)
  have EInvalidRows : IsOk K mg "InvalidRows" := E _ (by decide)
  have EInvalidTable : IsOk K mg "InvalidTable" := E _ (by decide)
  have EInvalidSpots : IsOk K mg "InvalidSpots" := E _ (by decide)
  have EInvalidWay : IsOk K mg "InvalidWay" := E _ (by decide)
  have EInvalidOrder : IsOk K mg "InvalidOrder" := E _ (by decide)
  have EInvalidBook : IsOk K mg "InvalidBook" := E _ (by decide)
  have EInvalidName : IsOk K mg "InvalidName" := E _ (by decide)
  have EInvalidPlaces : IsOk K mg "InvalidPlaces" := E _ (by decide)
  have EInvalidPlace : IsOk K mg "InvalidPlace" := E _ (by decide)
  have EInvalidWishes : IsOk K mg "InvalidWishes" := E _ (by decide)
  have EInvalidNet : IsOk K mg "InvalidNet" := E _ (by decide)
  have EInvalidFilling : IsOk K mg "InvalidFilling" := E _ (by decide)
  have EInvalidChoice : IsOk K mg "InvalidChoice" := E _ (by decide)
  have EInvalidMap : IsOk K mg "InvalidMap" := E _ (by decide)
  have EInvalidStrikes : IsOk K mg "InvalidStrikes" := E _ (by decide)
  have EInvalidSteps : IsOk K mg "InvalidSteps" := E _ (by decide)
  have EInvalidNumber : IsOk K mg "InvalidNumber" := E _ (by decide)
  have EInvalidDues : IsOk K mg "InvalidDues" := E _ (by decide)
  have EInvalidChanges : IsOk K mg "InvalidChanges" := E _ (by decide)
  have EInvalidDesk : IsOk K mg "InvalidDesk" := E _ (by decide)
  have EInvalidSpot : IsOk K mg "InvalidSpot" := E _ (by decide)
  have EInvalidScript : IsOk K mg "InvalidScript" := E _ (by decide)
  have EInvalidText : IsOk K mg "InvalidText" := E _ (by decide)
  have EInvalidRecord : IsOk K mg "InvalidRecord" := E _ (by decide)
  have EUnlike : IsOk K mg "Unlike" := E _ (by decide)
  have EUnmajored : IsOk K mg "Unmajored" := E _ (by decide)
  have ERefused : IsOk K mg "Refused" := E _ (by decide)
  have ENothingToUndo : IsOk K mg "NothingToUndo" := E _ (by decide)
  have ENothingToRedo : IsOk K mg "NothingToRedo" := E _ (by decide)
  refine F.ok scCode (fun vs H Q E h => ?_) (fun cdv A outer s H vs Q E' hr h => ?_)
  · obtain ⟨e, y, rfl, _⟩ := h
    rfl
  · obtain ⟨e, y, rfl, hE, hy, k⟩ := h
    refine ⟨_, PSs.nox (pss_cons (ps_firstB scCode.nd rfl (Or.inr rfl) (pa_i (pe_is EInvalidMarks T rfl (pv 0) rfl) (pa_i (pe_is EInvalidWidth T rfl (pv 0) rfl) (pa_i (pe_is EInvalidRows T rfl (pv 0) rfl) pa_i0))))
      (pss_cons (ps_moreB scCode.nd rfl (Or.inr rfl) (pv 1) (pa_i (pe_is EInvalidTable T rfl (pv 0) rfl) (pa_i (pe_is EInvalidSpots T rfl (pv 0) rfl) pa_i0)))
      (pss_cons (ps_moreB scCode.nd rfl (Or.inr rfl) (pv 1) (pa_i (pe_is EInvalidWay T rfl (pv 0) rfl) (pa_i (pe_is EInvalidOrder T rfl (pv 0) rfl) pa_i0)))
      (pss_cons (ps_moreB scCode.nd rfl (Or.inr rfl) (pv 1) (pa_i (pe_is EInvalidBook T rfl (pv 0) rfl) (pa_i (pe_is EInvalidName T rfl (pv 0) rfl) pa_i0)))
      (pss_cons (ps_moreB scCode.nd rfl (Or.inr rfl) (pv 1) (pa_i (pe_is EInvalidPlaces T rfl (pv 0) rfl) (pa_i (pe_is EInvalidPlace T rfl (pv 0) rfl) pa_i0)))
      (pss_cons (ps_moreB scCode.nd rfl (Or.inr rfl) (pv 1) (pa_i (pe_is EInvalidWishes T rfl (pv 0) rfl) (pa_i (pe_is EInvalidNet T rfl (pv 0) rfl) pa_i0)))
      (pss_cons (ps_moreB scCode.nd rfl (Or.inr rfl) (pv 1) (pa_i (pe_is EInvalidFilling T rfl (pv 0) rfl) (pa_i (pe_is EInvalidChoice T rfl (pv 0) rfl) pa_i0)))
      (pss_cons (ps_moreB scCode.nd rfl (Or.inr rfl) (pv 1) (pa_i (pe_is EInvalidMap T rfl (pv 0) rfl) (pa_i (pe_is EInvalidStrikes T rfl (pv 0) rfl) pa_i0)))
      (pss_cons (ps_moreB scCode.nd rfl (Or.inr rfl) (pv 1) (pa_i (pe_is EInvalidSteps T rfl (pv 0) rfl) (pa_i (pe_is EInvalidNumber T rfl (pv 0) rfl) pa_i0)))
      (pss_cons (ps_moreB scCode.nd rfl (Or.inr rfl) (pv 1) (pa_i (pe_is EInvalidDues T rfl (pv 0) rfl) (pa_i (pe_is EInvalidChanges T rfl (pv 0) rfl) pa_i0)))
      (pss_cons (ps_moreB scCode.nd rfl (Or.inr rfl) (pv 1) (pa_i (pe_is EInvalidDesk T rfl (pv 0) rfl) (pa_i (pe_is EInvalidSpot T rfl (pv 0) rfl) pa_i0)))
      (pss_cons (ps_moreB scCode.nd rfl (Or.inr rfl) (pv 1) (pa_i (pe_is EInvalidScript T rfl (pv 0) rfl) (pa_i (pe_is EInvalidText T rfl (pv 0) rfl) pa_i0)))
      (pss_cons (ps_moreB scCode.nd rfl (Or.inr rfl) (pv 1) (pa_i (pe_is EInvalidRecord T rfl (pv 0) rfl) (pa_i (pe_is EUnlike T rfl (pv 0) rfl) (pa_i (pe_is EUnmajored T rfl (pv 0) rfl) pa_i0))))
      (pss_cons (ps_moreB scCode.nd rfl (Or.inr rfl) (pv 1) (pa_i (pe_is ERefused T rfl (pv 0) rfl) (pa_i (pe_is ENothingToUndo T rfl (pv 0) rfl) pa_i0)))
      (pss_cons (ps_moreB scCode.nd rfl (Or.inr rfl) (pv 1) (pa_i (pe_is ENothingToRedo T rfl (pv 0) rfl) pa_i0))
      (pss_one (ps_ret (pe_lc (own := [("_law_at", 2)]) (g := gName 2) (tt := tB (tOp (rIxL K) (tVar 1) (tVar 2))) (te := tVar 2) rfl scCode.nd (pi_range1 rfl T.range (pa_cons (pe_callB call_len (by rfl) T.len PySem.boot_len (pa_cons (pv 1) pa_nil)) pa_nil)) (blkOk_by (own := [("_law_at", 2)]) (N := ["_law_error", "_law_found", "_law_at"]) (sc := defScope sCode) (by decide +kernel))
        (fun _ _ _ _ _ => pg_name (i := 2) scCode.nd rfl (Or.inl rfl)) (fun _ _ _ _ _ => pts_one (pt_val (pe_ix ix_list (pv 1) (pv 2) (fun _ _ => rfl))))
        (fun _ _ _ _ _ => pv 2))))))))))))))))))), ?_⟩
    refine ⟨e, y, none, [none], rfl, hE, hy, (Nat.le_of_ble_eq_true (by rfl)), fun L0 H0 s0 h0 => ?_⟩
    have S0 : Same H H0 := s0
    refine ⟨e, y, L0, _, [none], rfl, hE.same S0, hy, h0, (Nat.le_of_ble_eq_true (by rfl)), fun L1 H1 s1 h1 => ?_⟩
    have S1 : Same H H1 := S0.trans s1
    refine ⟨e, y, L1, _, [none], rfl, hE.same S1, hy, h1, (Nat.le_of_ble_eq_true (by rfl)), fun L2 H2 s2 h2 => ?_⟩
    have S2 : Same H H2 := S1.trans s2
    refine ⟨e, y, L2, _, [none], rfl, hE.same S2, hy, h2, (Nat.le_of_ble_eq_true (by rfl)), fun L3 H3 s3 h3 => ?_⟩
    have S3 : Same H H3 := S2.trans s3
    refine ⟨e, y, L3, _, [none], rfl, hE.same S3, hy, h3, (Nat.le_of_ble_eq_true (by rfl)), fun L4 H4 s4 h4 => ?_⟩
    have S4 : Same H H4 := S3.trans s4
    refine ⟨e, y, L4, _, [none], rfl, hE.same S4, hy, h4, (Nat.le_of_ble_eq_true (by rfl)), fun L5 H5 s5 h5 => ?_⟩
    have S5 : Same H H5 := S4.trans s5
    refine ⟨e, y, L5, _, [none], rfl, hE.same S5, hy, h5, (Nat.le_of_ble_eq_true (by rfl)), fun L6 H6 s6 h6 => ?_⟩
    have S6 : Same H H6 := S5.trans s6
    refine ⟨e, y, L6, _, [none], rfl, hE.same S6, hy, h6, (Nat.le_of_ble_eq_true (by rfl)), fun L7 H7 s7 h7 => ?_⟩
    have S7 : Same H H7 := S6.trans s7
    refine ⟨e, y, L7, _, [none], rfl, hE.same S7, hy, h7, (Nat.le_of_ble_eq_true (by rfl)), fun L8 H8 s8 h8 => ?_⟩
    have S8 : Same H H8 := S7.trans s8
    refine ⟨e, y, L8, _, [none], rfl, hE.same S8, hy, h8, (Nat.le_of_ble_eq_true (by rfl)), fun L9 H9 s9 h9 => ?_⟩
    have S9 : Same H H9 := S8.trans s9
    refine ⟨e, y, L9, _, [none], rfl, hE.same S9, hy, h9, (Nat.le_of_ble_eq_true (by rfl)), fun L10 H10 s10 h10 => ?_⟩
    have S10 : Same H H10 := S9.trans s10
    refine ⟨e, y, L10, _, [none], rfl, hE.same S10, hy, h10, (Nat.le_of_ble_eq_true (by rfl)), fun L11 H11 s11 h11 => ?_⟩
    have S11 : Same H H11 := S10.trans s11
    refine ⟨e, y, L11, _, [none], rfl, hE.same S11, hy, h11, (Nat.le_of_ble_eq_true (by rfl)), fun L12 H12 s12 h12 => ?_⟩
    have S12 : Same H H12 := S11.trans s12
    refine ⟨e, y, L12, _, [none], rfl, hE.same S12, hy, h12, (Nat.le_of_ble_eq_true (by rfl)), fun L13 H13 s13 h13 => ?_⟩
    have S13 : Same H H13 := S12.trans s13
    refine ⟨e, y, L13, _, [none], rfl, hE.same S13, hy, h13, (Nat.le_of_ble_eq_true (by rfl)), fun L14 H14 s14 h14 => ?_⟩
    have S14 : Same H H14 := S13.trans s14
    have hx : H14 L14 = some (.lst (allNames.map fun x => .bl (decide (y = x)))) := h14
    have hlen : (allNames.map fun x => V.bl (decide (y = x))).length = 31 := by
      rw [List.length_map]
      rfl
    refine ⟨_, rfl, _, 31, rfl, Or.inl ⟨_, SqL.of hx, hlen.symm⟩, _, rfl, by decide, by decide, fun D hD => ?_⟩
    have hD0 : H D = none := S14.free hD
    refine lc_range (lo := 0) (n := 31) (fun i H3 => H3 D = some (.lst ((codes y i).map fun i => V.int (i : Nat))) ∧ Same H14 H3) ?_ ?_ ?_
    · exact ⟨upd_same, same_new hD⟩
    · rintro i H3 hi ⟨h3, s3⟩
      have hv : (allNames.map fun x => V.bl (decide (y = x)))[i]? = some (.bl (decide (allNames[i]? = some y))) := by
        exact bools_at (by rw [len31]; exact hi)
      refine ⟨rfl, ?_⟩
      refine ⟨_, rfl, _, rfl, L14, _, _, _, rfl, rfl, SqL.of (s3 _ _ hx), (by rw [Int.zero_add]; exact atI_nat hv), _, rfl, ?_⟩
      have hc := codes_more y i
      refine ite2 (fun q => ?_) (fun q => ?_)
      · rw [if_pos q] at hc
        refine ⟨_, rfl, _, h3, ?_, ?_, fun b o z => ?_⟩
        · rw [List.length_map]
          refine small1000 (Nat.le_trans (List.length_filter_le _ _) ?_)
          rw [List.length_range]
          omega
        · rw [upd_same, hc, List.map_append, Int.zero_add]
          rfl
        · rw [upd_ne (ne_of_none z hD)]
          exact s3 _ _ z
      · rw [if_neg q, List.append_nil] at hc
        rw [hc]
        exact ⟨h3, s3⟩
    · rintro H3 ⟨h3, s3⟩
      exact k D H3 hD0 (S14.trans s3) h3
end Yt

set_option Elab.async false
set_option linter.all false
set_option maxRecDepth 100000
set_option maxHeartbeats 1000000
namespace Yt
open PySem PySem.Spec PyProof.Rows L2
theorem paired_at {α β : Type} {F : α → β → Prop} : ∀ {xs : List α} {ys : List β}, Paired F xs ys → ∀ {i : Nat} {x : α}, xs[i]? = some x → ∃ y, ys[i]? = some y ∧ F x y
  | _, _, .nil, i, x, h => by simp at h
  | _, _, .cons r t, 0, x, h => by
    simp at h
    subst h
    exact ⟨_, rfl, r⟩
  | _, _, .cons r t, i + 1, x, h => by
    obtain ⟨y, h1, h2⟩ := paired_at t (i := i) (x := x) (by simpa using h)
    exact ⟨y, by simpa using h1, h2⟩
theorem paired_app {α β : Type} {F : α → β → Prop} : ∀ {xs xs' : List α} {ys ys' : List β}, Paired F xs ys → Paired F xs' ys' → Paired F (xs ++ xs') (ys ++ ys')
  | _, _, _, _, .nil, h => h
  | _, _, _, _, .cons r t, h => .cons r (paired_app t h)
/-- isinstance of the base, of ValueError -/
structure Nm3 (K : PySem.W.Frag) (mg : Str → Option Value) : Prop where
  pe : mg "PairError" = some (.ref (He.ga K "PairError"))
  kp : ∀ y ∈ srcNames, PySem.W.kitOne K (.ref (He.ga K y)) (.ref (He.ga K "PairError")) = some true
  kv : ∀ y ∈ srcNames, PySem.W.kitOne K (.ref (He.ga K y)) (.type "ValueError") = some true
def spIsErr (K : PySem.W.Frag) : Sp := fun vs H Q _ => ∃ e y, vs = [.ref e] ∧ ErrIs H e (He.ga K y) ∧ y ∈ srcNames ∧ Q (.bl true) H
theorem scIsErr : FnScope ["_law_error"] ["_law_error"] (defScope sIsErr) := ⟨rfl, rfl, rfl, by decide +kernel, rfl, by decide +kernel, by decide +kernel⟩
section
variable {P : Program} {w : World} {K : PySem.W.Frag} {mg : Str → Option Value} {base : Heap} {f : Addr} {fd : FuncData}
theorem ok_iserr (F : FnP K "_law_is_error" sIsErr f fd) (T : Nm2 K mg) (T3 : Nm3 K mg) : FnOk P w K mg base CX0 1 f fd ["_law_error"] (spIsErr K) := by
  refine F.ok scIsErr (fun vs H Q E h => ?_) (fun cdv A outer s H vs Q E hr h => ?_)
  · obtain ⟨e, y, rfl, _⟩ := h
    rfl
  · obtain ⟨e, y, rfl, hE, hy, k⟩ := h
    refine ⟨_, PSs.nox (pss_one (ps_ret (pe_and (pe_callB call_isErr (by rfl) T.isi (by decide +kernel) (pa_cons (pv 0) (pa_cons (pe_glob (v := .ref (He.ga K "PairError")) rfl T3.pe rfl) pa_nil)))
      (pe_one (pe_callB call_isErr (by rfl) T.isi (by decide +kernel) (pa_cons (pv 0) (pa_cons (pe_bltn (v := .ty "ValueError") (u := .type "ValueError") (by rfl) T.ve PyProof.Rows.Boot.«ValueError» rfl) pa_nil))))))), ?_⟩
    refine ⟨_, rfl, e, _, _, _, true, rfl, hE, T.ec y hy, (fun u hu => hu), T3.kp y hy, true, rfl, ?_⟩
    refine iteT ?_
    exact ⟨_, rfl, e, _, _, _, true, rfl, hE, T.ec y hy, (fun u hu => hu), T3.kv y hy, k⟩
end
/-- lists of lists of ints -/
theorem dp_ints {K : PySem.W.Frag} {H : Hp} : ∀ ns : List Int, DpAll K H (ns.map V.int) (ns.map PyData.int)
  | [] => .nil
  | n :: r => .cons (.int n) (dp_ints r)
theorem dp_lists {K : PySem.W.Frag} {H : Hp} : ∀ {ls : List Addr} {nss : List (List Int)}, Paired (fun l ns => H l = some (.lst (ns.map V.int))) ls nss → DpAll K H (ls.map V.ref) (nss.map fun ns => .list (ns.map PyData.int))
  | _, _, .nil => .nil
  | _, _, .cons h t => .cons (.lst (SqL.of h) (dp_ints _)) (dp_lists t)
def ones (n : Nat) : List (List Int) := (List.range n).map fun (i : Nat) => [(i : Int)]
theorem ones_more (n : Nat) : ones (n + 1) = ones n ++ [[(n : Int)]] := by
  unfold ones
  rw [List.range_succ, List.map_append]
  rfl
theorem lay_lists : ∀ nss : List (List Int), PyData.canLayAll0 (nss.map fun ns => .list (ns.map PyData.int)) = true
  | [] => rfl
  | ns :: r => by
    show (PyData.canLayAll0 (ns.map .int) && PyData.canLayAll0 (r.map fun ns => .list (ns.map PyData.int))) = true
    rw [PyProof.Rows.canLayAll_ints, lay_lists r]
    rfl
theorem dep_lists : ∀ nss : List (List Int), PyData.depthAll (nss.map fun ns => .list (ns.map PyData.int)) ≤ 1
  | [] => by simp only [List.map_nil, PyData.depthAll]; omega
  | ns :: r => by
    have h := dep_lists r
    simp only [List.map_cons, PyData.depthAll, PyData.depth, PyProof.Rows.depthAll_ints]
    omega
def listsD (nss : List (List Int)) : PyData := .list (nss.map fun ns => .list (ns.map PyData.int))
theorem lists_lay (nss : List (List Int)) : (listsD nss).canLay0 = true := lay_lists nss
theorem lists_shaped (nss : List (List Int)) : SeqAt.shaped (listsD nss) = true := by
  unfold SeqAt.shaped
  rw [lists_lay]
  have h := dep_lists nss
  have e : (listsD nss).depth ≤ 64 := by
    unfold listsD
    simp only [PyData.depth]
    omega
  rw [decide_eq_true e]
  rfl
theorem lists_eqv (nss : List (List Int)) : PyData.eqv (listsD nss) (listsD nss) = true := SeqAt.eqv_refl _ (lists_lay nss)
theorem codes_one : ∀ i : Nat, i < 29 → ∀ y, fieldNames[i]? = some y → ((codes y 31).map fun i => V.int (i : Nat)) = ([(i : Int)] : List Int).map V.int := by
  intro i hi y hy
  have key : ∀ i : Fin 29, codes (fieldNames.getD i.1 "") 31 = [i.1] := by decide +kernel
  have e : fieldNames.getD i "" = y := by
    rw [List.getD_eq_getElem?_getD, hy]
    rfl
  have := key ⟨i, hi⟩
  rw [e] at this
  rw [this]
  rfl

/-- names that right asks besides -/
structure Nm4 (K : PySem.W.Frag) (mg : Str → Option Value) : Prop where
  rp : mg "repr" = none
  sys : ∃ o, K.lookup sysModules = some o
/-- data that repr shows -/
structure Shown (H : Hp) (v : V) (d : PyData) : Prop where
  rp : Rp H v d
  sh : d.showable = true
  sz : d.shown.length ≤ sizeLine
  dp : d.depth ≤ 60
theorem Shown.same {H H' : Hp} {v : V} {d : PyData} (s : Same H H') (h : Shown H v d) : Shown H' v d := ⟨h.rp.same s, h.sh, h.sz, h.dp⟩
/-- every error holds v, shown as z: True -/
def spRight (K : PySem.W.Frag) : Sp := fun vs H Q _ => ∃ (L : Addr) (es : List Addr) (v : V) (d : PyData), vs = [.ref L, .str d.shown] ∧ H L = some (.lst (es.map V.ref)) ∧ Errs H v es (CsOf K fieldNames) ∧ Shown H v d ∧ ∀ H', Same H H' → Q (.bl true) H'
theorem scRight : FnScope ["_law_some", "_law_noted", "_law_error", "_law_at"] ["_law_some", "_law_noted"] (defScope sRight) := ⟨rfl, rfl, rfl, by decide +kernel, rfl, by decide +kernel, by decide +kernel⟩
section
variable {P : Program} {w : World} {K : PySem.W.Frag} {mg : Str → Option Value} {base : Heap} {f fC fI : Addr} {fd fdC fdI : FuncData}
/-- the row of repr's test within the comprehension -/
abbrev tBad (K : PySem.W.Frag) : TT := tOr (tNot (tB (tCall (spIsErr K) [] E0 (tCons (tVar 2) tNil)))) (tTest (tOp rNe (tCB rRepr (tCons (tVal K (tVar 2)) tNil)) (tVar 1)))
theorem ok_right (F : FnP K "_law_right" sRight f fd) (T : Nm2 K mg) (T4 : Nm4 K mg) (EC : ∀ x ∈ fieldNames, ∃ fI, ErrC K (He.ga K x) fI)
    (GC : FnOk P w K mg base CX0 1 fC fdC ["_law_error"] (spCode K)) (bC : Binds K fdC ["_law_error"] []) (kC : PySem.W.keepIn K (.ref fC) = true) (gC : mg "_law_code" = some (.ref fC))
    (GI : FnOk P w K mg base CX0 1 fI fdI ["_law_error"] (spIsErr K)) (bI : Binds K fdI ["_law_error"] []) (kI : PySem.W.keepIn K (.ref fI) = true) (gI : mg "_law_is_error" = some (.ref fI)) :
    FnOkG P w K mg base CX0 2 f fd ["_law_some", "_law_noted"] (spRight K) := by
  refine okG F scRight (fun vs H Q E h => ?_) (fun cdv A outer s H vs Q E hgd hr h => ?_)
  · obtain ⟨L, es, v, d, rfl, _⟩ := h
    rfl
  · obtain ⟨L, es, v, d, rfl, hL, hE, hS, k⟩ := h
    refine ⟨_, PSs.nox (pss_cons (ps_if (pt_cmpR (op_neD hr.units)
        (pe_lc (own := [("_law_error", 2)]) (g := gName 2) (tt := tYes) (te := tCall (spCode K) [] E0 (tCons (tVar 2) tNil)) rfl scRight.nd (pi_list (pv 0)) (blkOk_by (own := [("_law_error", 2)]) (N := ["_law_some", "_law_noted", "_law_error", "_law_at"]) (sc := defScope sRight) (by decide +kernel))
          (fun _ _ _ _ _ => pg_name (i := 2) scRight.nd rfl (Or.inl rfl)) (fun _ _ _ _ _ => pts_nil) (fun _ _ _ _ _ => pe_call GC (hr.mono (by decide)) rfl gC kC bC .nil pass0 (pa_cons (pv 2) pa_nil)))
        (pe_lc (own := [("_law_at", 3)]) (g := gName 3) (tt := tYes) rfl scRight.nd (pi_range1 rfl T.range (pa_cons pe_int pa_nil)) (blkOk_by (own := [("_law_at", 3)]) (N := ["_law_some", "_law_noted", "_law_error", "_law_at"]) (sc := defScope sRight) (by decide +kernel))
          (fun _ _ _ _ _ => pg_name (i := 3) scRight.nd rfl (Or.inl rfl)) (fun _ _ _ _ _ => pts_nil) (fun _ _ _ _ _ => pe_lst (pa_cons (pv 3) pa_nil))) (nomark _)) (pss_one (ps_ret pe_bl)) pss_nil)
      (pss_one (ps_ret (pe_cmpR (op_eqD hr.units)
        (pe_lc (own := [("_law_error", 2)]) (g := gName 2) (tt := tBad K) (te := tVar 2) rfl scRight.nd (pi_list (pv 0)) (blkOk_by (own := [("_law_error", 2)]) (N := ["_law_some", "_law_noted", "_law_error", "_law_at"]) (sc := defScope sRight) (by decide +kernel))
          (fun _ _ _ _ _ => pg_name (i := 2) scRight.nd rfl (Or.inl rfl))
          (fun _ _ _ _ _ => pts_one (PW.pt (pw_or (pt_not (pt_val (pe_call GI (hr.mono (by decide)) rfl gI kI bI .nil pass0 (pa_cons (pv 2) pa_nil)))) (pw_or1 (pt_cmpR op_ne (pe_callB (call_repr hr hgd T4.sys) (by rfl) T4.rp (by decide +kernel) (pa_cons (pe_val (pv 2)) pa_nil)) (pv 1) (nomark _))))))
          (fun _ _ _ _ _ => pv 2))
        (pe_lst pa_nil) (nomark _))))), ?_⟩
    have hlen : es.length = 29 := (Paired.length hE).trans (by rw [List.length_map]; rfl)
    have hlen' : (es.map V.ref).length = 29 := by rw [List.length_map, hlen]
    have at_i : ∀ (i : Nat) (x : V), (es.map V.ref)[i]? = some x → ∃ e y, x = V.ref e ∧ fieldNames[i]? = some y ∧ ErrAt H e (He.ga K y) v := fun i x hi => by
      rw [List.getElem?_map] at hi
      cases he : es[i]? with
      | none =>
        rw [he] at hi
        cases hi
      | some e =>
        rw [he] at hi
        obtain rfl : V.ref e = x := Option.some.inj hi
        obtain ⟨C, hC, hA⟩ := paired_at hE he
        rw [List.getElem?_map] at hC
        cases hy : fieldNames[i]? with
        | none =>
          rw [hy] at hC
          cases hC
        | some y =>
          rw [hy] at hC
          obtain rfl : He.ga K y = C := Option.some.inj hC
          exact ⟨e, y, rfl, rfl, hA⟩
    have src : ∀ (i : Nat) (y : Str), fieldNames[i]? = some y → y ∈ fieldNames ∧ y ∈ srcNames := fun i y hy => ⟨List.mem_of_getElem? hy, List.mem_append_left _ (List.mem_append_left _ (List.mem_of_getElem? hy))⟩
    refine ⟨_, rfl, L, rfl, ⟨_, SqL.of hL⟩, fun D hD => ?_⟩
    have neD : ∀ {b : Addr} {o : HO}, H b = some o → b ≠ D := fun z => ne_of_none z hD
    refine lc_list (K := K) (a := L) (xs := es.map V.ref) (fun i H3 => ∃ ls : List Addr, H3 D = some (.lst (ls.map V.ref)) ∧ Paired (fun l ns => l ≠ D ∧ H3 l = some (.lst (ns.map V.int))) ls (ones i) ∧ Same H H3) ?_ ?_ ?_ ?_
    · exact ⟨[], upd_same, .nil, same_new hD⟩
    · rintro i H3 hi ⟨ls, h3, hp, s3⟩
      exact s3.seq (SqL.of hL)
    · rintro i x H3 hi ⟨ls, h3, hp, s3⟩
      obtain ⟨e, y, rfl, hy, hA⟩ := at_i i x hi
      have hi29 : i < 29 := by
        have := (List.getElem?_eq_some_iff.mp hi).1
        omega
      refine ⟨rfl, ?_⟩
      refine ⟨_, rfl, e, y, rfl, (hA.same s3).is, (src i y hy).2, fun l H4 nl s4 hl4 => ?_⟩
      rw [codes_one i hi29 y hy] at hl4
      have nlD : l ≠ D := fun z => by
        rw [z, h3] at nl
        cases nl
      refine ⟨_, s4 _ _ h3, ?_, ls ++ [l], ?_, ?_, fun b o z => ?_⟩
      · rw [List.length_map, Paired.length hp]
        refine small1000 ?_
        unfold ones
        rw [List.length_map, List.length_range]
        omega
      · rw [upd_same, List.map_append]
        rfl
      · rw [ones_more]
        refine Paired.snoc (Paired.mapP hp fun l' ns h => ⟨h.1, ?_⟩) ⟨nlD, ?_⟩
        · rw [upd_ne h.1]
          exact s4 _ _ h.2
        · rw [upd_ne nlD]
          exact hl4
      · rw [upd_ne (neD z)]
        exact s4 _ _ (s3 _ _ z)
    · rintro H3 ⟨ls, h3, hp, s3⟩
      rw [hlen'] at hp
      refine ⟨_, rfl, by decide, by decide, fun D2 hD2 => ?_⟩
      refine lc_range (lo := 0) (n := 29) (fun i H4 => ∃ ms : List Addr, H4 D2 = some (.lst (ms.map V.ref)) ∧ Paired (fun l ns => l ≠ D2 ∧ H4 l = some (.lst (ns.map V.int))) ms (ones i) ∧ Same H3 H4) ?_ ?_ ?_
      · exact ⟨[], upd_same, .nil, same_new hD2⟩
      · rintro i H4 hi ⟨ms, h4, hq, s4⟩
        refine ⟨rfl, ?_⟩
        refine ⟨_, rfl, (by show 1 ≤ sizeLine; decide), fun l nl => ?_⟩
        have nlD : l ≠ D2 := fun z => by
          rw [z, h4] at nl
          cases nl
        refine ⟨_, same_new nl _ _ h4, ?_, ms ++ [l], ?_, ?_, fun b o z => ?_⟩
        · rw [List.length_map, Paired.length hq]
          refine small1000 ?_
          unfold ones
          rw [List.length_map, List.length_range]
          omega
        · rw [upd_same, List.map_append]
          rfl
        · rw [ones_more]
          refine Paired.snoc (Paired.mapP hq fun l' ns h => ⟨h.1, ?_⟩) ⟨nlD, ?_⟩
          · rw [upd_ne h.1]
            exact same_new nl _ _ h.2
          · rw [upd_ne nlD, upd_same, Int.zero_add]
            rfl
        · rw [upd_ne (ne_of_none z hD2)]
          exact same_new nl _ _ (s4 _ _ z)
      · rintro H4 ⟨ms, h4, hq, s4⟩
        have d1 : Dp K H4 (.ref D) (listsD (ones 29)) := .lst (SqL.of (s4 _ _ h3)) (dp_lists (Paired.mapP hp fun l ns h => s4 _ _ h.2))
        have d2 : Dp K H4 (.ref D2) (listsD (ones 29)) := .lst (SqL.of h4) (dp_lists (Paired.mapP hq fun l ns h => h.2))
        refine ⟨_, _, d1, d2, lists_shaped _, lists_shaped _, _, rfl, ?_⟩
        rw [lists_eqv]
        refine iteF ?_
        have S4 : Same H H4 := s3.trans s4
        refine ⟨_, rfl, L, rfl, ⟨_, SqL.of (S4 _ _ hL)⟩, fun D3 hD3 => ?_⟩
        refine lc_list (K := K) (a := L) (xs := es.map V.ref) (fun i H5 => H5 D3 = some (.lst []) ∧ Same H H5) ?_ ?_ ?_ ?_
        · exact ⟨upd_same, S4.trans (same_new hD3)⟩
        · rintro i H5 hi ⟨h5, s5⟩
          exact s5.seq (SqL.of hL)
        · rintro i x H5 hi ⟨h5, s5⟩
          obtain ⟨e, y, rfl, hy, hA⟩ := at_i i x hi
          obtain ⟨fI, hI⟩ := EC y (src i y hy).1
          have hA5 := hA.same s5
          refine ⟨rfl, ?_⟩
          refine ⟨_, rfl, e, y, rfl, hA5.is, (src i y hy).2, true, rfl, ?_⟩
          refine iteF ?_
          refine ⟨_, rfl, e, _, fI, v, rfl, hI, hA5, v, d, rfl, hS.rp.same s5, hS.sh, hS.sz, hS.dp, _, rfl, rfl, _, rfl, ?_⟩
          exact iteNS rfl ⟨h5, s5⟩
        · rintro H5 ⟨h5, s5⟩
          refine ⟨(by show 0 ≤ sizeLine; decide), fun p np => ?_⟩
          have e0 : (V.bl (PyData.eqv (.list []) (.list []))) = .bl true := by decide
          refine ⟨.list [], .list [], .lst (SqL.of (same_new np _ _ h5)) .nil, .lst (SqL.of upd_same) .nil, rfl, rfl, ?_⟩
          rw [e0]
          exact k _ (s5.trans (same_new np))
end
end Yt

set_option Elab.async false
set_option linter.all false
set_option maxRecDepth 100000
set_option maxHeartbeats 1000000
namespace Yt
open PySem PySem.Spec PyProof.Rows L2
/-! ### what the law shows -/
def SmallText (z : Str) : Prop := (z.cps.toList.all fun c => decide (c < 16 ^ 8)) = true ∧ z.cps.size ≤ 8
theorem WordOk.small {z : Str} (h : WordOk z) : SmallText z := by
  refine ⟨List.all_eq_true.mpr fun c hc => decide_eq_true ?_, h.1.2⟩
  have := (h.2 c hc).2
  have e : (16 : Nat) ^ 8 = 4294967296 := by decide
  omega
theorem shown_of {H : Hp} {v : V} {d : PyData} (h : Rp H v d) (h1 : d.showable = true) (h2 : d.leavesShort 13 = true) (h3 : d.weight ≤ 2 ^ 20) (h4 : d.depth ≤ 60) : Shown H v d :=
  ⟨h, h1, PyData.shown_fits (B := 13) (by decide) (by decide) h2 h3, h4⟩
theorem small_later : SmallText "later" := ⟨by decide +kernel, by decide⟩
theorem small_odd : SmallText "odd" := ⟨by decide +kernel, by decide⟩
theorem small_says : SmallText "says" := ⟨by decide +kernel, by decide⟩
theorem small_LATER : SmallText "LATER" := ⟨by decide +kernel, by decide⟩
section
variable {H : Hp} {w : Str}
theorem sh_none : Shown H .non .none := shown_of .non rfl rfl (by decide) (by decide)
theorem sh_bool (b : Bool) : Shown H (.bl b) (.bool b) := shown_of (.bl b) rfl rfl (by show 0 ≤ _; omega) (by show 0 ≤ _; omega)
theorem log_small {i : Int} (h : i.natAbs < 10 ^ 12) : i.natAbs.log2 ≤ 50 := by
  by_cases z : i.natAbs = 0
  · rw [z]
    decide
  · have := (Nat.log2_lt z (k := 50)).mpr (Nat.lt_trans h (by decide))
    omega
theorem sh_int {i : Int} (h : i.natAbs < 10 ^ 12) : Shown H (.int i) (.int i) := by
  have hl := log_small h
  refine shown_of (.int i) ?_ ?_ ?_ (by show 0 ≤ _; omega)
  · simp only [PyData.showable, decide_eq_true_eq]
    omega
  · simp only [PyData.leavesShort, decide_eq_true_eq]
    exact PyData.shown_int_le h
  · simp only [PyData.weight]
    split <;> omega
theorem sh_str (h : SmallText w) : Shown H (.str w) (.str w) := by
  refine shown_of (.str w) rfl ?_ ?_ (by show 0 ≤ _; omega)
  · simp only [PyData.leavesShort]
    exact h.1
  · have := h.2
    simp only [PyData.weight]
    omega
/-- lists of small texts -/
theorem rp_texts : ∀ ys : List Str, RpAll H (ys.map V.str) (ys.map PyData.str)
  | [] => .nil
  | y :: r => .cons (.str y) (rp_texts r)
def Small (ys : List Str) : Prop := ys.length ≤ 100 ∧ ∀ y ∈ ys, SmallText y
theorem texts_show : ∀ ys : List Str, PyData.showableAll (ys.map PyData.str) = true
  | [] => rfl
  | y :: r => by simp only [List.map_cons, PyData.showableAll, PyData.showable, texts_show r, Bool.and_self]
theorem texts_short : ∀ ys : List Str, (∀ y ∈ ys, SmallText y) → PyData.leavesShortAll 13 (ys.map PyData.str) = true
  | [], _ => rfl
  | y :: r, h => by
    simp only [List.map_cons, PyData.leavesShortAll, PyData.leavesShort]
    rw [(h y (List.mem_cons_self ..)).1, texts_short r fun z hz => h z (List.mem_cons_of_mem _ hz)]
    rfl
theorem texts_weight : ∀ ys : List Str, (∀ y ∈ ys, SmallText y) → PyData.weightAll (ys.map PyData.str) ≤ 9 * ys.length
  | [], _ => by simp [PyData.weightAll]
  | y :: r, h => by
    have i := texts_weight r fun z hz => h z (List.mem_cons_of_mem _ hz)
    have j := (h y (List.mem_cons_self ..)).2
    simp only [List.map_cons, PyData.weightAll, PyData.weight, List.length_cons]
    omega
theorem texts_depth : ∀ ys : List Str, PyData.depthAll (ys.map PyData.str) = 0
  | [] => by simp [PyData.depthAll]
  | y :: r => by simp [PyData.depthAll, PyData.depth, texts_depth r]
abbrev dTexts (ys : List Str) : PyData := .list (ys.map PyData.str)
theorem rp_list {a : Addr} {ys : List Str} (h : H a = some (.lst (ys.map V.str))) : Rp H (.ref a) (dTexts ys) := .lst (.inl h) (rp_texts ys)

theorem sh_texts {a : Addr} {ys : List Str} (h : H a = some (.lst (ys.map V.str))) (hs : Small ys) : Shown H (.ref a) (dTexts ys) := by
  refine shown_of (rp_list h) ?_ ?_ ?_ ?_
  · simp only [dTexts, PyData.showable, PyData.showableAll, PyData.showableKv, texts_show]
  · simp only [dTexts, PyData.leavesShort, PyData.leavesShortAll, PyData.leavesShortKv]
    exact texts_short ys hs.2
  · have := texts_weight ys hs.2
    have := hs.1
    simp only [dTexts, PyData.weight, PyData.weightAll, PyData.weightKv]
    omega
  · simp only [dTexts, PyData.depth, PyData.depthAll, PyData.depthKv, texts_depth]
    omega
theorem sh_t4 {t : Addr} (h : H t = some (.tup [.str "says", .str w, .int 1, .int 2])) (hw : SmallText w) : Shown H (.ref t) (.tuple [.str "says", .str w, .int 1, .int 2]) := by
  refine shown_of (.tup (.inl h) (.cons (.str _) (.cons (.str w) (.cons (.int 1) (.cons (.int 2) .nil))))) ?_ ?_ ?_ ?_
  · simp only [PyData.showable, PyData.showableAll, PyData.showableKv]
    decide +kernel
  · simp only [PyData.leavesShort, PyData.leavesShortAll, PyData.leavesShortKv, hw.1, small_says.1, Bool.true_and, Bool.and_true]
    rw [decide_eq_true (PyData.shown_int_le (i := 1) (by decide)), decide_eq_true (PyData.shown_int_le (i := 2) (by decide))]
    rfl
  · have h1 := hw.2
    have h2 := small_says.2
    have h3 : (1 : Int).natAbs.log2 ≤ 50 := log_small (by decide)
    have h4 : (2 : Int).natAbs.log2 ≤ 50 := log_small (by decide)
    simp only [PyData.weight, PyData.weightAll, PyData.weightKv]
    have e1 : (if ((1 : Int) == 0) = true then 0 else (1 : Int).natAbs.log2 + 1) ≤ 51 := by split <;> omega
    have e2 : (if ((2 : Int) == 0) = true then 0 else (2 : Int).natAbs.log2 + 1) ≤ 51 := by split <;> omega
    omega
  · simp only [PyData.depth, PyData.depthAll, PyData.depthKv]
    decide
theorem sh_t2 {t l : Addr} {ys : List Str} (h : H t = some (.tup [.str w, .ref l])) (hl : H l = some (.lst (ys.map V.str))) (hw : SmallText w) (hs : Small ys) : Shown H (.ref t) (.tuple [.str w, dTexts ys]) := by
  refine shown_of (.tup (.inl h) (.cons (.str w) (.cons (rp_list hl) .nil))) ?_ ?_ ?_ ?_
  · simp only [dTexts, PyData.showable, PyData.showableAll, PyData.showableKv, texts_show]
    rfl
  · simp only [dTexts, PyData.leavesShort, PyData.leavesShortAll, PyData.leavesShortKv, hw.1, texts_short ys hs.2]
    rfl
  · have := texts_weight ys hs.2
    have := hs.1
    have := hw.2
    simp only [dTexts, PyData.weight, PyData.weightAll, PyData.weightKv]
    omega
  · simp only [dTexts, PyData.depth, PyData.depthAll, PyData.depthKv, texts_depth]
    decide
theorem sh_dct {a l : Addr} {ys : List Str} (h : H a = some (.dK [(Sum.inr w, .ref l)])) (hl : H l = some (.lst (ys.map V.str))) (hw : SmallText w) (hs : Small ys) : Shown H (.ref a) (.dict [(.str w, dTexts ys)]) := by
  refine shown_of (.dct h (.cons (.str w) .nil) (.cons (rp_list hl) .nil)) ?_ ?_ ?_ ?_
  · simp only [dTexts, PyData.showable, PyData.showableAll, PyData.showableKv, texts_show]
    rfl
  · simp only [dTexts, PyData.leavesShort, PyData.leavesShortAll, PyData.leavesShortKv, hw.1, texts_short ys hs.2]
    rfl
  · have := texts_weight ys hs.2
    have := hs.1
    have := hw.2
    simp only [dTexts, PyData.weight, PyData.weightAll, PyData.weightKv]
    omega
  · simp only [dTexts, PyData.depth, PyData.depthAll, PyData.depthKv, texts_depth]
    decide
theorem sh_dct2 {a l : Addr} {ys : List Str} (h : H a = some (.dK [(Sum.inr w, .ref l), (Sum.inr "LATER", .int 1)])) (hl : H l = some (.lst (ys.map V.str))) (hw : SmallText w) (hs : Small ys) : Shown H (.ref a) (.dict [(.str w, dTexts ys), (.str "LATER", .int 1)]) := by
  refine shown_of (.dct h (.cons (.str w) (.cons (.str _) .nil)) (.cons (rp_list hl) (.cons (.int 1) .nil))) ?_ ?_ ?_ ?_
  · simp only [dTexts, PyData.showable, PyData.showableAll, PyData.showableKv, texts_show]
    decide +kernel
  · simp only [dTexts, PyData.leavesShort, PyData.leavesShortAll, PyData.leavesShortKv, hw.1, texts_short ys hs.2, small_LATER.1]
    rw [decide_eq_true (PyData.shown_int_le (i := 1) (by decide))]
    rfl
  · have := texts_weight ys hs.2
    have := hs.1
    have := hw.2
    have := small_LATER.2
    have h3 : (1 : Int).natAbs.log2 ≤ 50 := log_small (by decide)
    simp only [dTexts, PyData.weight, PyData.weightAll, PyData.weightKv]
    have e1 : (if ((1 : Int) == 0) = true then 0 else (1 : Int).natAbs.log2 + 1) ≤ 51 := by split <;> omega
    omega
  · simp only [dTexts, PyData.depth, PyData.depthAll, PyData.depthKv, texts_depth]
    decide
theorem sh_l2 {a b c : Addr} {ys zs : List Str} {u : Str} (h : H a = some (.lst (.ref b :: .ref c :: zs.map V.str))) (hb : H b = some (.lst (ys.map V.str))) (hc : H c = some (.dK [(Sum.inr u, .str w)])) (hw : SmallText w) (hu : SmallText u) (hs : Small ys) (hz : Small zs) :
    Shown H (.ref a) (.list (dTexts ys :: .dict [(.str u, .str w)] :: zs.map PyData.str)) := by
  refine shown_of (.lst (.inl h) (.cons (rp_list hb) (.cons (.dct hc (.cons (.str u) .nil) (.cons (.str w) .nil)) (rp_texts zs)))) ?_ ?_ ?_ ?_
  · simp only [dTexts, PyData.showable, PyData.showableAll, PyData.showableKv, texts_show]
    rfl
  · simp only [dTexts, PyData.leavesShort, PyData.leavesShortAll, PyData.leavesShortKv, hw.1, hu.1, texts_short ys hs.2, texts_short zs hz.2]
    rfl
  · have := texts_weight ys hs.2
    have := hs.1
    have := texts_weight zs hz.2
    have := hz.1
    have := hw.2
    have := hu.2
    simp only [dTexts, PyData.weight, PyData.weightAll, PyData.weightKv]
    omega
  · simp only [dTexts, PyData.depth, PyData.depthAll, PyData.depthKv, texts_depth]
    decide
theorem small1 {y : Str} (h : SmallText y) : Small [y] := ⟨by show 1 ≤ 100; decide, fun z hz => by rw [List.mem_singleton.mp hz]; exact h⟩
theorem small2 {y z : Str} (h : SmallText y) (g : SmallText z) : Small [y, z] := ⟨by show 2 ≤ 100; decide, fun u hu => by
  rcases List.mem_cons.mp hu with e | e
  · rw [e]
    exact h
  · rw [List.mem_singleton.mp e]
    exact g⟩
theorem small0 : Small [] := ⟨by decide, fun z hz => nomatch hz⟩
end
/-- the thing that the law draws -/
inductive Thing (w : Str) (H : Hp) : V → Prop
  | non : Thing w H .non
  | bl (b : Bool) : Thing w H (.bl b)
  | int {i : Int} (h : i.natAbs < 10 ^ 12) : Thing w H (.int i)
  | str : Thing w H (.str w)
  | t4 {t : Addr} (h : H t = some (.tup [.str "says", .str w, .int 1, .int 2])) : Thing w H (.ref t)
  | t2 {t l : Addr} (h : H t = some (.tup [.str w, .ref l])) (hl : H l = some (.lst [.str w])) : Thing w H (.ref t)
  | dct {a l : Addr} (h : H a = some (.dK [(Sum.inr w, .ref l)])) (hl : H l = some (.lst [.str w])) : Thing w H (.ref a)
  | l1 {a : Addr} (h : H a = some (.lst [.str w])) : Thing w H (.ref a)
  | l2 {a b c : Addr} (h : H a = some (.lst [.ref b, .ref c])) (hb : H b = some (.lst [.str w])) (hc : H c = some (.dK [(Sum.inr "odd", .str w)])) : Thing w H (.ref a)
theorem Thing.to {w : Str} {H H' : Hp} {x : V} (s : ∀ b o, H b = some o → H' b = some o) (h : Thing w H x) : Thing w H' x := by
  cases h with
  | non => exact .non
  | bl b => exact .bl b
  | int h => exact .int h
  | str => exact .str
  | t4 h => exact .t4 (s _ _ h)
  | t2 h hl => exact .t2 (s _ _ h) (s _ _ hl)
  | dct h hl => exact .dct (s _ _ h) (s _ _ hl)
  | l1 h => exact .l1 (s _ _ h)
  | l2 h hb hc => exact .l2 (s _ _ h) (s _ _ hb) (s _ _ hc)
theorem Thing.shown {w : Str} {H : Hp} {x : V} (hw : SmallText w) (h : Thing w H x) : ∃ d, Shown H x d := by
  cases h with
  | non => exact ⟨_, sh_none⟩
  | bl b => exact ⟨_, sh_bool b⟩
  | int h => exact ⟨_, sh_int h⟩
  | str => exact ⟨_, sh_str hw⟩
  | t4 h => exact ⟨_, sh_t4 h hw⟩
  | t2 h hl => exact ⟨_, sh_t2 (ys := [w]) h hl hw (small1 hw)⟩
  | dct h hl => exact ⟨_, sh_dct (ys := [w]) h hl hw (small1 hw)⟩
  | l1 h => exact ⟨_, sh_texts (ys := [w]) h (small1 hw)⟩
  | l2 h hb hc => exact ⟨_, sh_l2 (ys := [w]) (zs := []) h hb hc hw small_odd (small1 hw) small0⟩
/-- what is changed at one place leaves the errors -/
theorem ErrAt.but {a e C : Addr} {v : V} {H H' : Hp} (b : But a H H') (na : ∀ φ, H a ≠ some (.ext φ)) (h : ErrAt H e C v) : ErrAt H' e C v := by
  obtain ⟨d, h1, h2⟩ := h
  refine ⟨d, b _ _ (fun z => ?_) h1, b _ _ (fun z => ?_) h2⟩
  · rw [z] at h1
    exact na _ h1
  · rw [z] at h2
    exact na _ h2
theorem Errs.but {a : Addr} {v : V} {es Cs : List Addr} {H H' : Hp} (b : But a H H') (na : ∀ φ, H a ≠ some (.ext φ)) (h : Errs H v es Cs) : Errs H' v es Cs := Paired.mapP h fun _ _ z => z.but b na
theorem upd_but {a : Addr} {o : HO} {H : Hp} : But a H (upd H a o) := fun b u n z => by
  rw [upd_ne n]
  exact z
theorem word_LATER {z : Str} (h : WordOk z) : z ≠ "LATER" := fun e => by
  have h76 : (76 : Nat) ∈ z.cps.toList := by
    rw [e]
    decide +kernel
  have := (h.2 76 h76).1
  omega
end Yt

set_option Elab.async false
set_option linter.all false
set_option maxRecDepth 100000
set_option maxHeartbeats 2000000
namespace Yt
open PySem PySem.Spec PyProof.Rows L2
/-! ### an error class without a field, made of nothing -/
structure BareOk (K : PySem.W.Frag) (mg : Str → Option Value) (x : Str) : Prop where
  glo : mg x = some (.ref (He.ga K x))
  exc : PySem.W.excIn K (He.ga K x) He.veBase "ValueError.__new__" = true
  kp : PySem.W.keepIn K (.ref (He.ga K x)) = true
def tBare (C : Addr) : TE := fun _ H Q => ∀ e, H e = none → Q (.ref e) (upd H e (exo e C none))
theorem pe_bare {X : Cx} {x : Str} {p pos : Pos} (B : BareOk X.K X.mg x) (hg : Gl X x) (hdb : (x == ("__debug__" : Str)) = false := by decide) : PE X (.Call (.Name x p) [] [] pos) (tBare (He.ga X.K x)) := by
  refine ⟨fun pins s σ H Q I h => ?_⟩
  refine wpAny_Call_Name_kw (ld_glob I hg B.glo ?_ hdb)
  refine PySem.W.callWith_K0 I.kIn B.kp ?_
  show wpAny _ _ (call (.ref (He.ga X.K x)) []) _ _ _
  obtain ⟨bm, N, nm, qn, bs, hdct, sn, sub, ab, col, dd, k0, k1, k2, k3, k5, mN, hC, hN, hni, T⟩ := exc_obj I.kIn B.exc
  refine wpAny_call_exc_subT PySem.F.excBase_ValueError T hC hN hni (fun h' a hm => ?_) (by show 0 ≤ sizeLine; omega)
  have hn : H a = none := I.hok.gone hm.new
  obtain ⟨t, ht, _, _⟩ := hm.there
  exact ⟨.ref a, upd H a (exo a (He.ga X.K x) none), I.laidN hm.keeps hm.new hn (exo_ok ht), rfl, h a hn⟩
theorem scLaw : FnScope ["_law_script", "_law_purse_here", "_law_word_here", "_law_plain", "_law_thing", "_law_noted", "_law_some", "_law_called_here", "_law_later", "_law_rest", "_law_error"] ["_law_script"] (defScope sLaw) := ⟨rfl, rfl, rfl, by decide +kernel, rfl, by decide +kernel, by decide +kernel⟩
end Yt

set_option Elab.async false
set_option linter.all false
set_option maxRecDepth 100000
set_option maxHeartbeats 2000000
namespace Yt
open PySem PySem.Spec PyProof.Rows L2
/-- a def of the text: its promise, as it is called -/
structure Cal (P : Program) (w : World) (K : PySem.W.Frag) (mg : Str → Option Value) (base : Heap) (x : Str) (k : Nat) (ps : List Str) (sp : Sp) (f : Addr) (fd : FuncData) : Prop where
  G : FnOk P w K mg base CX0 k f fd ps sp
  b : Binds K fd ps []
  k : PySem.W.keepIn K (.ref f) = true
  g : mg x = some (.ref f)
structure CalG (P : Program) (w : World) (K : PySem.W.Frag) (mg : Str → Option Value) (base : Heap) (x : Str) (k : Nat) (ps : List Str) (sp : Sp) (f : Addr) (fd : FuncData) : Prop where
  G : FnOkG P w K mg base CX0 k f fd ps sp
  b : Binds K fd ps []
  k : PySem.W.keepIn K (.ref f) = true
  g : mg x = some (.ref f)
theorem pe_cal {X : Cx} {x : Str} {j k : Nat} {ps : List Str} {sp : Sp} {f : Addr} {fd : FuncData} {e : Expr} {es : List Expr} {t : TA} {p pos : Pos} (C : Cal X.prog X.w X.K X.mg X.base x j ps sp f fd) (hr : Room k X.A) (hj : j ≤ k) (hg : Gl X x) (ha : PA X (e :: es) t) (hdb : (x == ("__debug__" : Str)) = false := by decide)
    (he : starEach (e :: es) X.env = (false, eval e X.env) :: starEach es X.env := by rfl) (hpl : (backTo pos (starEach es X.env)).any (·.1) = false := by rfl) : PE X (.Call (.Name x p) (e :: es) [] pos) (tCall sp [] E0 t) :=
  pe_call C.G (hr.mono hj) hg C.g C.k C.b .nil pass0 ha hdb he hpl
theorem pe_calG {X : Cx} {x : Str} {j k : Nat} {ps : List Str} {sp : Sp} {f : Addr} {fd : FuncData} {e : Expr} {es : List Expr} {t : TA} {p pos : Pos} (C : CalG X.prog X.w X.K X.mg X.base x j ps sp f fd) (hgd : X.A.guards = some []) (hr : Room k X.A) (hj : j ≤ k) (hg : Gl X x) (ha : PA X (e :: es) t) (hdb : (x == ("__debug__" : Str)) = false := by decide)
    (he : starEach (e :: es) X.env = (false, eval e X.env) :: starEach es X.env := by rfl) (hpl : (backTo pos (starEach es X.env)).any (·.1) = false := by rfl) : PE X (.Call (.Name x p) (e :: es) [] pos) (tCall sp [] E0 t) :=
  pe_callG C.G hgd (hr.mono hj) hg C.g C.k C.b .nil pass0 ha hdb he hpl
theorem disp_same {H : Hp} {c l : Addr} {o1 o2 o3 : HO} (nc : H c = none) (nl : upd H c o1 l = none) : Same H (upd (upd (upd H c o1) l o2) c o3) ∧ (upd (upd (upd H c o1) l o2) c o3) c = some o3 ∧ (upd (upd (upd H c o1) l o2) c o3) l = some o2 := by
  have lc : l ≠ c := fun z => by
    rw [z, upd_same] at nl
    cases nl
  have nl' : H l = none := by
    rw [upd_ne lc] at nl
    exact nl
  refine ⟨fun b o z => ?_, upd_same, by rw [upd_ne lc, upd_same]⟩
  rw [upd_ne (ne_of_none z nc), upd_ne (ne_of_none z nl'), upd_ne (ne_of_none z nc)]
  exact z
theorem disp_same1 {H : Hp} {c : Addr} {o1 o3 : HO} (nc : H c = none) : Same H (upd (upd H c o1) c o3) ∧ (upd (upd H c o1) c o3) c = some o3 := by
  refine ⟨fun b o z => ?_, upd_same⟩
  rw [upd_ne (ne_of_none z nc), upd_ne (ne_of_none z nc)]
  exact z
/-- the thing stands though the purse has changed -/
theorem Thing.draw {w : Str} {H H' : Hp} {x : V} {p : Addr} {i j k l : Int} (hp : H p = some (.lst [.int i, .int j, .int k, .int l])) (b : But p H H') (h : Thing w H x) : Thing w H' x := by
  have s : ∀ c o, H c = some o → o ≠ .lst [.int i, .int j, .int k, .int l] → H' c = some o := fun c o z n => b c o (fun e => by
    rw [e, hp] at z
    exact n (Option.some.inj z).symm) z
  cases h with
  | non => exact .non
  | bl b => exact .bl b
  | int h => exact .int h
  | str => exact .str
  | t4 h => exact .t4 (s _ _ h (by intro z; cases z))
  | t2 h hl => exact .t2 (s _ _ h (by intro z; cases z)) (s _ _ hl (by intro z; cases z))
  | dct h hl => exact .dct (s _ _ h (by intro z; cases z)) (s _ _ hl (by intro z; cases z))
  | l1 h => exact .l1 (s _ _ h (by intro z; cases z))
  | l2 h hb hc => exact .l2 (s _ _ h (by intro z; cases z)) (s _ _ hb (by intro z; cases z)) (s _ _ hc (by intro z; cases z))
theorem thing_mem {H : Hp} {w : Str} {y : Int} {t4 t2 l2 dc l3 l1 la lb c2 : Addr} {u : V} {i : Nat} (hy : 0 ≤ y ∧ y < 2147483648) (T4 : H t4 = some (.tup [.str "says", .str w, .int 1, .int 2])) (T2a : H t2 = some (.tup [.str w, .ref l2])) (T2b : H l2 = some (.lst [.str w]))
    (Da : H dc = some (.dK [(Sum.inr w, .ref l3)])) (Db : H l3 = some (.lst [.str w])) (L1a : H l1 = some (.lst [.str w])) (Laa : H la = some (.lst [.ref lb, .ref c2])) (Lba : H lb = some (.lst [.str w])) (C2a : H c2 = some (.dK [(Sum.inr "odd", .str w)]))
    (hi : ([.non, .bl true, .bl false, .int 0, .str w, .int (-y), .ref t4, .ref t2, .ref dc] ++ [.ref l1, .ref la] : List V)[i]? = some u) : Thing w H u := by
  have hu := List.mem_of_getElem? hi
  simp only [List.mem_append, List.mem_cons, List.not_mem_nil, or_false] at hu
  rcases hu with (rfl | rfl | rfl | rfl | rfl | rfl | rfl | rfl | rfl) | rfl | rfl
  · exact .non
  · exact .bl true
  · exact .bl false
  · exact .int (by decide)
  · exact .str
  · exact .int (by
      have : (-y).natAbs < 2147483649 := by omega
      exact Nat.lt_trans this (by decide))
  · exact .t4 T4
  · exact .t2 T2a T2b
  · exact .dct Da Db
  · exact .l1 L1a
  · exact .l2 Laa Lba C2a
theorem sh_later {H : Hp} {t : Addr} {w : Str} (h : H t = some (.tup [.str "later", .str w])) (hw : SmallText w) : Shown H (.ref t) (.tuple [.str "later", .str w]) := by
  refine shown_of (.tup (.inl h) (.cons (.str _) (.cons (.str w) .nil))) ?_ ?_ ?_ ?_
  · simp only [PyData.showable, PyData.showableAll, PyData.showableKv]
    rfl
  · simp only [PyData.leavesShort, PyData.leavesShortAll, PyData.leavesShortKv, hw.1, small_later.1]
    rfl
  · have := hw.2
    have := small_later.2
    simp only [PyData.weight, PyData.weightAll, PyData.weightKv]
    omega
  · simp only [PyData.depth, PyData.depthAll, PyData.depthKv]
    decide
/-- names of the law's own def -/
structure Nm5 (mg : Str → Option Value) : Prop where
  list : mg "list" = none
  dict : mg "dict" = none
  tuple : mg "tuple" = none
  all : mg "all" = none
def spLaw (K : PySem.W.Frag) : Sp := fun vs H Q _ => ∃ (a : Addr) (ns : List Int), vs = [.ref a] ∧ SqL K H a (ns.map V.int) ∧ ns.length ≤ 63 ∧ ∀ H', Q (.bl true) H'
def twoTab (i : Nat) : List (List Int) := ([[29], [30]] : List (List Int)).take i
section
variable {P : Program} {w : World} {K : PySem.W.Frag} {mg : Str → Option Value} {base : Heap} {f f1 f2 f3 f4 f5 f6 f7 f8 f9 : Addr} {fd d1 d2 d3 d4 d5 d6 d7 d8 d9 : FuncData}
theorem ok_law (F : FnP K "law" sLaw f fd) (T : Nm2 K mg) (T4 : Nm4 K mg) (T5 : Nm5 mg)
    (CP : Cal P w K mg base "_law_purses" 2 ["_law_script", "_law_few"] (spPurses K) f1 d1) (CW : Cal P w K mg base "_law_word" 3 ["_law_purse_here"] spWord f2 d2) (CO : Cal P w K mg base "_law_one_of" 3 ["_law_purse_here", "_law_some"] (spOne K) f3 d3)
    (C1 : Cal P w K mg base "_law_first" 3 ["_law_thing"] (spErrs (fun vs v => vs = [v]) 1 (CsOf K fieldNames)) f4 d4) (C2 : Cal P w K mg base "_law_called" 3 ["_law_thing"] (spErrs (fun vs v => vs = [v]) 1 (CsOf K fieldNames)) f5 d5)
    (C0 : Cal P w K mg base "_law_bare" 3 [] (spErrs (fun _ v => v = V.non) 0 (CsOf K fieldNames)) f6 d6) (CC : Cal P w K mg base "_law_code" 1 ["_law_error"] (spCode K) f7 d7) (CI : Cal P w K mg base "_law_is_error" 1 ["_law_error"] (spIsErr K) f8 d8)
    (CR : CalG P w K mg base "_law_right" 2 ["_law_some", "_law_noted"] (spRight K) f9 d9) (BU : BareOk K mg "NothingToUndo") (BR : BareOk K mg "NothingToRedo") (BP : BareOk K mg "PairError") :
    FnOkG P w K mg base CX0 4 f fd ["_law_script"] (spLaw K) := by
  refine okG F scLaw (fun vs H Q E h => ?_) (fun cdv A outer s H vs Q E hgd hr h => ?_)
  · obtain ⟨a, ns, rfl, _⟩ := h
    rfl
  · obtain ⟨a, ns, rfl, hS, hl, k⟩ := h
    have hu := hu_of hr
    refine ⟨_, PSs.nox (pss_cons (ps_for PassesOwn.never rfl (pi_list (pe_cal CP hr (by decide) rfl (pa_cons (pv 0) (pa_cons pe_int pa_nil)))) (pg_name (i := 1) scLaw.nd rfl (Or.inl rfl))
        (pss_cons (ps_set (i := 2) scLaw.nd rfl (Or.inl rfl) (pe_cal CW hr (by decide) rfl (pa_cons (pv 1) pa_nil)))
        (pss_cons (ps_set (i := 3) scLaw.nd rfl (Or.inl rfl) (pe_lst (pa_cons pe_non (pa_cons pe_bl (pa_cons pe_bl (pa_cons pe_int (pa_cons (pv 2) (pa_cons (pe_un un_neg (pe_ix ix_list (pv 1) pe_int (fun _ _ => rfl)))
          (pa_cons (pe_tup (pa_cons pe_str (pa_cons (pv 2) (pa_cons pe_int (pa_cons pe_int pa_nil))))) (pa_cons (pe_tup (pa_cons (pv 2) (pa_cons (pe_lst (pa_cons (pv 2) pa_nil)) pa_nil)))
          (pa_cons (pe_disp (pps_cons (pv 2) (pe_lst (pa_cons (pv 2) pa_nil)) pps_nil) (by rfl) (by rfl) (fun z => by cases z) (by decide)) pa_nil)))))))))))
        (pss_cons (ps_set (i := 4) scLaw.nd rfl (Or.inl rfl) (pe_cal CO hr (by decide) rfl (pa_cons (pv 1) (pa_cons (pe_op op_cat (pv 3) (pe_lst (pa_cons (pe_lst (pa_cons (pv 2) pa_nil)) (pa_cons (pe_lst (pa_cons (pe_lst (pa_cons (pv 2) pa_nil))
          (pa_cons (pe_disp (pps_cons pe_str (pv 2) pps_nil) (by rfl) (by rfl) (fun z => by cases z) (by decide)) pa_nil))) pa_nil)))) pa_nil))))
        (pss_cons (ps_set (i := 5) scLaw.nd rfl (Or.inl rfl) (pe_callB (call_repr hr hgd T4.sys) (by rfl) T4.rp (by decide +kernel) (pa_cons (pv 4) pa_nil)))
        (pss_cons (ps_par3 (i := 6) (j := 7) (l := 8) rfl scLaw.nd rfl rfl rfl (by decide) (by decide) (by decide) rfl rfl rfl (pa_cons (pe_cal C1 hr (by decide) rfl (pa_cons (pv 4) pa_nil)) (pa_cons (pe_cal C2 hr (by decide) rfl (pa_cons (pv 4) pa_nil)) (pa_cons (pe_cal C1 hr (by decide) rfl (pa_cons (pe_tup (pa_cons pe_str (pa_cons (pv 2) pa_nil))) pa_nil)) pa_nil))) rfl)
        (pss_cons (ps_if (PW.pt (pw_or (pt_not (pt_val (pe_calG CR hgd hr (by decide) rfl (pa_cons (pe_call0 C0.G hr rfl C0.g C0.k C0.b .nil pass0) (pa_cons pe_str pa_nil)))))
            (pw_or1 (pt_not (pt_val (pe_calG CR hgd hr (by decide) rfl (pa_cons (pv 8) (pa_cons (pe_callB (call_repr hr hgd T4.sys) (by rfl) T4.rp (by decide +kernel) (pa_cons (pe_tup (pa_cons pe_str (pa_cons (pv 2) pa_nil))) pa_nil)) pa_nil)))))))) (pss_one (ps_ret pe_bl)) pss_nil)
        (pss_cons (ps_if (PW.pt (pw_or (pt_not (pt_val (pe_calG CR hgd hr (by decide) rfl (pa_cons (pv 6) (pa_cons (pv 5) pa_nil))))) (pw_or1 (pt_not (pt_val (pe_calG CR hgd hr (by decide) rfl (pa_cons (pv 7) (pa_cons (pv 5) pa_nil)))))))) (pss_one (ps_ret pe_bl)) pss_nil)
        (pss_cons (ps_if (pt_val (pe_callB call_isi (by rfl) T.isi (by decide +kernel) (pa_cons (pv 4) (pa_cons (pe_bltn (v := .ty "list") (u := .type "list") (by rfl) T5.list (by decide +kernel) rfl) pa_nil))))
            (pss_one (ps_expr (pe_bm PySem.F.plainAttrs_list PySem.F.slot_list_append PySem.F.type_list_append mt_append (pv 4) (pa_cons pe_str pa_nil)))) pss_nil)
        (pss_cons (ps_if (pt_val (pe_callB call_isi (by rfl) T.isi (by decide +kernel) (pa_cons (pv 4) (pa_cons (pe_bltn (v := .ty "dict") (u := .type "dict") (by rfl) T5.dict (by decide +kernel) rfl) pa_nil))))
            (pss_cons (ps_expr (pe_bm PySem.F.plainAttrs_list PySem.F.slot_list_append PySem.F.type_list_append mt_append (pe_dget hu (pv 4) (pv 2) (fun _ _ => rfl)) (pa_cons pe_str pa_nil)))
            (pss_one (ps_dput hu (pv 4) pe_str pe_int rfl))) pss_nil)
        (pss_cons (ps_if (PW.pt (pw_and (pt_val (pe_callB call_isi (by rfl) T.isi (by decide +kernel) (pa_cons (pv 4) (pa_cons (pe_bltn (v := .ty "tuple") (u := .type "tuple") (by rfl) T5.tuple (by decide +kernel) rfl) pa_nil))))
              (pw_and1 (pt_val (pe_callB call_isi (by rfl) T.isi (by decide +kernel) (pa_cons (pe_ix ix_tup (pv 4) pe_int (fun _ _ => rfl)) (pa_cons (pe_bltn (v := .ty "list") (u := .type "list") (by rfl) T5.list (by decide +kernel) rfl) pa_nil)))))))
            (pss_one (ps_expr (pe_bm PySem.F.plainAttrs_list PySem.F.slot_list_append PySem.F.type_list_append mt_append (pe_ix ix_tup (pv 4) pe_int (fun _ _ => rfl)) (pa_cons pe_str pa_nil)))) pss_nil)
        (pss_one (ps_if (PW.pt (pw_or (pt_not (pt_val (pe_calG CR hgd hr (by decide) rfl (pa_cons (pv 6) (pa_cons (pe_callB (call_repr hr hgd T4.sys) (by rfl) T4.rp (by decide +kernel) (pa_cons (pv 4) pa_nil)) pa_nil)))))
            (pw_or1 (pt_not (pt_val (pe_calG CR hgd hr (by decide) rfl (pa_cons (pv 7) (pa_cons (pe_callB (call_repr hr hgd T4.sys) (by rfl) T4.rp (by decide +kernel) (pa_cons (pv 4) pa_nil)) pa_nil)))))))) (pss_one (ps_ret pe_bl)) pss_nil)))))))))))))
      (pss_cons (ps_set (i := 9) scLaw.nd rfl (Or.inl rfl) (pe_lst (pa_cons (pe_bare BU rfl) (pa_cons (pe_bare BR rfl) pa_nil))))
      (pss_cons (ps_if (pt_cmpR (op_neD hr.units)
          (pe_lc (own := [("_law_error", 10)]) (g := gName 10) (tt := tYes) (te := tCall (spCode K) [] E0 (tCons (tVar 10) tNil)) rfl scLaw.nd (pi_list (pv 9)) (blkOk_by (own := [("_law_error", 10)]) (N := ["_law_script", "_law_purse_here", "_law_word_here", "_law_plain", "_law_thing", "_law_noted", "_law_some", "_law_called_here", "_law_later", "_law_rest", "_law_error"]) (sc := defScope sLaw) (by decide +kernel))
            (fun _ _ _ _ _ => pg_name (i := 10) scLaw.nd rfl (Or.inl rfl)) (fun _ _ _ _ _ => pts_nil) (fun _ _ _ _ _ => pe_cal CC hr (by decide) rfl (pa_cons (pv 10) pa_nil)))
          (pe_lst (pa_cons (pe_lst (pa_cons pe_int pa_nil)) (pa_cons (pe_lst (pa_cons pe_int pa_nil)) pa_nil))) (nomark _)) (pss_one (ps_ret pe_bl)) pss_nil)
      (pss_cons (ps_expr (pe_bm PySem.F.plainAttrs_list PySem.F.slot_list_append PySem.F.type_list_append mt_append (pv 9) (pa_cons (pe_bare BP rfl) pa_nil)))
      (pss_one (ps_ret (pe_and (pe_callB (cr_all rfl) (by rfl) T5.all (by decide +kernel) (pa_cons
          (pe_lc (own := [("_law_error", 10)]) (g := gName 10) (tt := tYes) (te := tCall (spIsErr K) [] E0 (tCons (tVar 10) tNil)) rfl scLaw.nd (pi_list (pv 9)) (blkOk_by (own := [("_law_error", 10)]) (N := ["_law_script", "_law_purse_here", "_law_word_here", "_law_plain", "_law_thing", "_law_noted", "_law_some", "_law_called_here", "_law_later", "_law_rest", "_law_error"]) (sc := defScope sLaw) (by decide +kernel))
            (fun _ _ _ _ _ => pg_name (i := 10) scLaw.nd rfl (Or.inl rfl)) (fun _ _ _ _ _ => pts_nil) (fun _ _ _ _ _ => pe_cal CI hr (by decide) rfl (pa_cons (pv 10) pa_nil))) pa_nil))
        (pe_one (pe_cmpR (op_eqD hr.units) (pe_cal CC hr (by decide) rfl (pa_cons (pe_ix ix_list (pv 9) pe_int (fun _ _ => rfl)) pa_nil)) (pe_lst pa_nil) (nomark _)))))))))), ?_⟩
    refine ⟨_, rfl, a, ns, 1, rfl, hS, hl, ⟨by decide, by decide⟩, fun L ps H1 hne hlen hL1n hL1 hps hnd s1 => ?_⟩
    obtain ⟨p, rfl⟩ : ∃ p, ps = [p] := by
      match ps, hne, hlen with
      | [p], _, _ => exact ⟨p, rfl⟩
      | p :: q :: r, _, h => simp only [List.length_cons] at h; omega
    obtain ⟨hP1, _, hpL⟩ := hps p (List.mem_singleton.mpr rfl)
    refine ⟨L, rfl, ⟨_, SqL.of hL1⟩, for_list (K := K) (a := L) (xs := [V.ref p]) (fun i σ H2 => ∃ v1 v2 v3 v4 v5 v6 v7 v8 : Option V, σ = [some (.ref a), v1, v2, v3, v4, v5, v6, v7, v8, none, none] ∧ (i = 0 → H2 = H1) ∧ H2 L = some (.lst [.ref p]))
      ⟨none, none, none, none, none, none, none, none, rfl, fun _ => rfl, hL1⟩ (fun i σ H2 _ ⟨_, _, _, _, _, _, _, _, _, _, h⟩ => SqL.of h) ?_ ?_⟩
    · rintro i u0 σ Hb hi ⟨v1, v2, v3, v4, v5, v6, v7, v8, rfl, h0, hLk⟩
      obtain rfl : i = 0 := by
        have := (List.getElem?_eq_some_iff.mp hi).1
        simp only [List.length_singleton] at this
        omega
      obtain rfl := h0 rfl
      obtain rfl : V.ref p = u0 := Option.some.inj hi
      -- word
      refine ⟨_, rfl, p, 100, rfl, hP1.less (by decide), fun w H2 hw hP2 hB2 => ?_⟩
      have hws := hw.small
      obtain ⟨x, y, c, t, hpx, hx0, hy, hc, ht⟩ := id hP2
      -- plain
      refine ⟨_, rfl, _, rfl, p, _, _, _, rfl, rfl, SqL.of hpx, atI_nat (j := 1) rfl, _, rfl, _, rfl, (by show 4 ≤ sizeLine; decide), fun t4 n4 => ?_⟩
      refine ⟨_, rfl, _, rfl, (by show 1 ≤ sizeLine; decide), fun l2 nl2 => ⟨(by show 2 ≤ sizeLine; decide), fun t2 nt2 => fun dc ndc => ?_⟩⟩
      refine ⟨_, rfl, _, rfl, (by show 1 ≤ sizeLine; decide), fun l3 nl3 => ⟨same_new nl3 _ _ upd_same, [(Sum.inr w, .ref l3)], rfl, (by show 1 ≤ 15; decide), (by show 9 ≤ sizeLine; decide), fun Lp nLp => ?_⟩⟩
      obtain ⟨sD, hD1, hD2⟩ := disp_same (o2 := .lst [.str w]) (o3 := .dK (mergeK [] [(Sum.inr w, .ref l3)])) ndc nl3
      -- thing
      refine ⟨_, rfl, _, rfl, _, rfl, (by show 1 ≤ sizeLine; decide), fun l1 nl1 => ⟨_, rfl, (by show 1 ≤ sizeLine; decide), fun lb nlb => fun c2 nc2 => ?_⟩⟩
      refine ⟨_, rfl, upd_same, [(Sum.inr "odd", .str w)], rfl, (by show 1 ≤ 15; decide), (by show 2 ≤ sizeLine; decide), fun la nla => ⟨(by show 2 ≤ sizeLine; decide), fun Lq nLq => ?_⟩⟩
      obtain ⟨sC, hC⟩ := disp_same1 (o1 := .dK []) (o3 := .dK (mergeK [] [(Sum.inr "odd", .str w)])) nc2
      have sa := same_new (o := .lst [.ref lb, .ref c2]) nla
      have sq := same_new (o := .lst [.ref l1, .ref la]) nLq
      have sb := same_new (o := .lst [.str w]) nlb
      have s1' := same_new (o := .lst [.str w]) nl1
      refine ⟨Lp, Lq, _, _, rfl, rfl, sq _ _ (sa _ _ (sC _ _ (sb _ _ (s1' _ _ upd_same)))), upd_same, (by show 9 + 2 ≤ sizeLine; decide), fun Lr nLr => ?_⟩
      have ya := sa.trans sq
      have yc := sC.trans ya
      have yb := sb.trans yc
      have y1 := s1'.trans yb
      have yp := (same_new nLp).trans y1
      have yd := sD.trans yp
      have y3 := (same_new nt2).trans yd
      have y2 := (same_new nl2).trans y3
      have y4 := (same_new n4).trans y2
      have sr := same_new (o := .lst ([.non, .bl true, .bl false, .int 0, .str w, .int (-y), .ref t4, .ref t2, .ref dc] ++ [.ref l1, .ref la])) nLr
      have neLr : Lr ≠ p := (ne_of_none (y4 _ _ hpx) nLr).symm
      have zall := y4.trans sr
      have T4' := (y2.trans sr) _ _ upd_same
      have T2a := (yd.trans sr) _ _ upd_same
      have T2b := (y3.trans sr) _ _ upd_same
      have Da := (yp.trans sr) _ _ hD1
      have Db := (yp.trans sr) _ _ hD2
      have L1a := (yb.trans sr) _ _ upd_same
      have Lba := (yc.trans sr) _ _ upd_same
      have C2a := (ya.trans sr) _ _ hC
      have Laa := (sq.trans sr) _ _ upd_same
      have hPF := hP2.to fun o e => zall _ _ e
      have hpF := zall _ _ hpx
      have hLF := zall _ _ (hB2 _ _ hpL.symm hLk)
      refine ⟨p, Lr, 50, _, rfl, hPF.less (by decide), SqL.of upd_same, neLr, ⟨by show 0 < 11; decide, by show 11 ≤ 1000000; decide⟩, fun i u H3 hi2 hP3 hB3 => ?_⟩
      have hT0 := thing_mem hy T4' T2a T2b Da Db L1a Laa Lba C2a hi2
      have hT := hT0.draw hpF hB3
      have hL3 := hB3 _ _ hpL.symm hLF
      clear hT0 hPF hpF hLF T4' T2a T2b Da Db L1a Lba C2a Laa zall neLr sr y4 y2 y3 yd yp y1 yb yc ya sa sq sb s1' sC hC sD hD1 hD2
      obtain ⟨d, hSd⟩ := hT.shown hws
      -- noted
      refine ⟨_, rfl, u, d, rfl, hSd.rp, hSd.sh, hSd.sz, hSd.dp, ?_⟩
      -- the errors
      refine ⟨_, rfl, u, rfl, rfl, fun M1 es1 H5 n5 s5 h5 E5 => ⟨_, rfl, u, rfl, rfl, fun M2 es2 H6 n6 s6 h6 E6 => ⟨_, rfl, (by show 2 ≤ sizeLine; decide), fun tl ntl => ⟨.ref tl, rfl, rfl, fun M3 es3 H7 n7 s7 h7 E7 => ⟨_, _, _, rfl, ?_⟩⟩⟩⟩⟩
      have x6 : Same H6 H7 := (same_new ntl).trans s7
      have x5 : Same H5 H7 := s6.trans x6
      have x3 : Same H3 H7 := s5.trans x5
      have hT7 := s7 _ _ (upd_same (H := H6) (a := tl) (o := .tup [.str "later", .str w]))
      -- bare, later
      refine ⟨.non, rfl, rfl, fun M0 es0 H8 n8 s8 h8 E8 => ⟨M0, es0, .non, .none, (by rw [PyData.shown_none] <;> rfl), h8, E8, sh_none, fun H9 s9 => ⟨true, rfl, ?_⟩⟩⟩
      refine iteF ?_
      refine ⟨_, rfl, _, rfl, (by show 2 ≤ sizeLine; decide), fun tq ntq => ?_⟩
      have q9 := (s8.trans s9).trans (same_new (o := .tup [.str "later", .str w]) ntq)
      have SL := sh_later (upd_same (H := H9) (a := tq) (o := .tup [.str "later", .str w])) hws
      refine ⟨.ref tq, _, rfl, SL.rp, SL.sh, SL.sz, SL.dp, ⟨M3, es3, .ref tl, _, rfl, q9 _ _ h7, E7.same q9, sh_later (q9 _ _ hT7) hws, fun HA sA => ⟨true, rfl, ?_⟩⟩⟩
      refine iteF ?_
      have x9 : Same H7 HA := q9.trans sA
      clear q9 SL sA ntq s9 s8 n8 E8 h8
      -- some, called
      refine ⟨_, rfl, _, rfl, M1, es1, u, d, rfl, x9 _ _ (x5 _ _ h5), E5.same (x5.trans x9), hSd.same (x3.trans x9), fun HB sB => ⟨true, rfl, ?_⟩⟩
      refine iteF ?_
      have y6 : Same H6 HB := x6.trans (x9.trans sB)
      refine ⟨_, rfl, _, rfl, M2, es2, u, d, rfl, y6 _ _ h6, E6.same y6, hSd.same (x3.trans (x9.trans sB)), fun HC sC => ⟨true, rfl, ?_⟩⟩
      refine iteF ?_
      have z7 : Same H7 HC := x9.trans (sB.trans sC)
      have z3 : Same H3 HC := x3.trans z7
      have M1c := z7 _ _ (x5 _ _ h5)
      have M2c := z7 _ _ (x6 _ _ h6)
      have E1c := E5.same (x5.trans z7)
      have E2c := E6.same (x6.trans z7)
      have LC := z3 _ _ hL3
      have off1 : ∀ {b : Addr} {o : HO}, H3 b = some o → M1 ≠ b := fun h => (ne_of_none h n5).symm
      have off2 : ∀ {b : Addr} {o : HO}, H3 b = some o → M2 ≠ b := fun h => (ne_of_none (s5 _ _ h) n6).symm
      clear x9 sB sC y6 x3 x5 x6 z7 s7 E7 h7 s6 E6 h6 E5 h5
      cases hT with
      | non =>
        refine ⟨_, rfl, _, _, .type "NoneType", _, false, rfl, .ty _, .base (.non), kit_ty (by decide +kernel), _, rfl, ?_⟩
        refine iteF ?_
        refine ⟨_, rfl, _, _, .type "NoneType", _, false, rfl, .ty _, .base (.non), kit_ty (by decide +kernel), _, rfl, ?_⟩
        refine iteF ?_
        refine ⟨_, rfl, _, _, .type "NoneType", _, false, rfl, .ty _, .base (.non), kit_ty (by decide +kernel), _, rfl, ?_⟩
        refine iteF ?_
        refine iteF ?_
        have M1d := M1c
        have M2d := M2c
        have E1d := E1c
        have E2d := E2c
        have Ld := LC
        have SF := sh_none (H := HC)
        refine ⟨_, rfl, _, rfl, _, _, rfl, SF.rp, SF.sh, SF.sz, SF.dp, M1, es1, _, _, rfl, M1d, E1d, SF, fun HD sD => ⟨true, rfl, ?_⟩⟩
        refine iteF ?_
        refine ⟨_, rfl, _, rfl, _, _, rfl, SF.rp.same sD, SF.sh, SF.sz, SF.dp, M2, es2, _, _, rfl, sD _ _ M2d, E2d.same sD, SF.same sD, fun HE sE => ⟨true, rfl, ?_⟩⟩
        refine iteF ?_
        exact ⟨_, _, _, _, _, _, _, _, rfl, (fun z => by cases z), sE _ _ (sD _ _ Ld)⟩
      | bl b =>
        refine ⟨_, rfl, _, _, .type "bool", _, false, rfl, .ty _, .base (.bl b), kit_ty (by decide +kernel), _, rfl, ?_⟩
        refine iteF ?_
        refine ⟨_, rfl, _, _, .type "bool", _, false, rfl, .ty _, .base (.bl b), kit_ty (by decide +kernel), _, rfl, ?_⟩
        refine iteF ?_
        refine ⟨_, rfl, _, _, .type "bool", _, false, rfl, .ty _, .base (.bl b), kit_ty (by decide +kernel), _, rfl, ?_⟩
        refine iteF ?_
        refine iteF ?_
        have M1d := M1c
        have M2d := M2c
        have E1d := E1c
        have E2d := E2c
        have Ld := LC
        have SF := sh_bool (H := HC) b
        refine ⟨_, rfl, _, rfl, _, _, rfl, SF.rp, SF.sh, SF.sz, SF.dp, M1, es1, _, _, rfl, M1d, E1d, SF, fun HD sD => ⟨true, rfl, ?_⟩⟩
        refine iteF ?_
        refine ⟨_, rfl, _, rfl, _, _, rfl, SF.rp.same sD, SF.sh, SF.sz, SF.dp, M2, es2, _, _, rfl, sD _ _ M2d, E2d.same sD, SF.same sD, fun HE sE => ⟨true, rfl, ?_⟩⟩
        refine iteF ?_
        exact ⟨_, _, _, _, _, _, _, _, rfl, (fun z => by cases z), sE _ _ (sD _ _ Ld)⟩
      | int hi =>
        refine ⟨_, rfl, _, _, .type "int", _, false, rfl, .ty _, .base (.int _), kit_ty (by decide +kernel), _, rfl, ?_⟩
        refine iteF ?_
        refine ⟨_, rfl, _, _, .type "int", _, false, rfl, .ty _, .base (.int _), kit_ty (by decide +kernel), _, rfl, ?_⟩
        refine iteF ?_
        refine ⟨_, rfl, _, _, .type "int", _, false, rfl, .ty _, .base (.int _), kit_ty (by decide +kernel), _, rfl, ?_⟩
        refine iteF ?_
        refine iteF ?_
        have M1d := M1c
        have M2d := M2c
        have E1d := E1c
        have E2d := E2c
        have Ld := LC
        have SF := sh_int (H := HC) hi
        refine ⟨_, rfl, _, rfl, _, _, rfl, SF.rp, SF.sh, SF.sz, SF.dp, M1, es1, _, _, rfl, M1d, E1d, SF, fun HD sD => ⟨true, rfl, ?_⟩⟩
        refine iteF ?_
        refine ⟨_, rfl, _, rfl, _, _, rfl, SF.rp.same sD, SF.sh, SF.sz, SF.dp, M2, es2, _, _, rfl, sD _ _ M2d, E2d.same sD, SF.same sD, fun HE sE => ⟨true, rfl, ?_⟩⟩
        refine iteF ?_
        exact ⟨_, _, _, _, _, _, _, _, rfl, (fun z => by cases z), sE _ _ (sD _ _ Ld)⟩
      | str =>
        refine ⟨_, rfl, _, _, .type "str", _, false, rfl, .ty _, .base (.str w), kit_ty (by decide +kernel), _, rfl, ?_⟩
        refine iteF ?_
        refine ⟨_, rfl, _, _, .type "str", _, false, rfl, .ty _, .base (.str w), kit_ty (by decide +kernel), _, rfl, ?_⟩
        refine iteF ?_
        refine ⟨_, rfl, _, _, .type "str", _, false, rfl, .ty _, .base (.str w), kit_ty (by decide +kernel), _, rfl, ?_⟩
        refine iteF ?_
        refine iteF ?_
        have M1d := M1c
        have M2d := M2c
        have E1d := E1c
        have E2d := E2c
        have Ld := LC
        have SF := sh_str (H := HC) hws
        refine ⟨_, rfl, _, rfl, _, _, rfl, SF.rp, SF.sh, SF.sz, SF.dp, M1, es1, _, _, rfl, M1d, E1d, SF, fun HD sD => ⟨true, rfl, ?_⟩⟩
        refine iteF ?_
        refine ⟨_, rfl, _, rfl, _, _, rfl, SF.rp.same sD, SF.sh, SF.sz, SF.dp, M2, es2, _, _, rfl, sD _ _ M2d, E2d.same sD, SF.same sD, fun HE sE => ⟨true, rfl, ?_⟩⟩
        refine iteF ?_
        exact ⟨_, _, _, _, _, _, _, _, rfl, (fun z => by cases z), sE _ _ (sD _ _ Ld)⟩
      | t4 h =>
        refine ⟨_, rfl, _, _, .type "tuple", _, false, rfl, .ty _, .base (.tup (z3 _ _ h)), kit_ty (by decide +kernel), _, rfl, ?_⟩
        refine iteF ?_
        refine ⟨_, rfl, _, _, .type "tuple", _, false, rfl, .ty _, .base (.tup (z3 _ _ h)), kit_ty (by decide +kernel), _, rfl, ?_⟩
        refine iteF ?_
        refine ⟨_, rfl, _, _, .type "tuple", _, true, rfl, .ty _, .base (.tup (z3 _ _ h)), kit_ty (by decide +kernel), _, rfl, ?_⟩
        refine iteT ?_
        refine ⟨_, rfl, _, _, _, _, rfl, rfl, SqT.of (z3 _ _ h), atI_nat (j := 1) rfl, _, _, .type "str", _, false, rfl, .ty _, .base (.str w), kit_ty (by decide +kernel), _, rfl, ?_⟩
        refine iteF ?_
        have M1d := M1c
        have M2d := M2c
        have E1d := E1c
        have E2d := E2c
        have Ld := LC
        have SF := sh_t4 (z3 _ _ h) hws
        refine ⟨_, rfl, _, rfl, _, _, rfl, SF.rp, SF.sh, SF.sz, SF.dp, M1, es1, _, _, rfl, M1d, E1d, SF, fun HD sD => ⟨true, rfl, ?_⟩⟩
        refine iteF ?_
        refine ⟨_, rfl, _, rfl, _, _, rfl, SF.rp.same sD, SF.sh, SF.sz, SF.dp, M2, es2, _, _, rfl, sD _ _ M2d, E2d.same sD, SF.same sD, fun HE sE => ⟨true, rfl, ?_⟩⟩
        refine iteF ?_
        exact ⟨_, _, _, _, _, _, _, _, rfl, (fun z => by cases z), sE _ _ (sD _ _ Ld)⟩
      | @t2 tt ll h hl =>
        refine ⟨_, rfl, _, _, .type "tuple", _, false, rfl, .ty _, .base (.tup (z3 _ _ h)), kit_ty (by decide +kernel), _, rfl, ?_⟩
        refine iteF ?_
        refine ⟨_, rfl, _, _, .type "tuple", _, false, rfl, .ty _, .base (.tup (z3 _ _ h)), kit_ty (by decide +kernel), _, rfl, ?_⟩
        refine iteF ?_
        refine ⟨_, rfl, _, _, .type "tuple", _, true, rfl, .ty _, .base (.tup (z3 _ _ h)), kit_ty (by decide +kernel), _, rfl, ?_⟩
        refine iteT ?_
        refine ⟨_, rfl, _, _, _, _, rfl, rfl, SqT.of (z3 _ _ h), atI_nat (j := 1) rfl, _, _, .type "list", _, true, rfl, .ty _, .base (.lst (z3 _ _ hl)), kit_ty (by decide +kernel), _, rfl, ?_⟩
        refine iteT ?_
        refine ⟨_, rfl, _, _, _, _, rfl, rfl, SqT.of (z3 _ _ h), atI_nat (j := 1) rfl, .inl ⟨rfl, _, SqL.of (z3 _ _ hl)⟩, _, _, _, rfl, rfl, z3 _ _ hl, (by show 1 < sizeLine; decide), ?_⟩
        have na : ∀ φ, HC ll ≠ some (.ext φ) := fun φ z => by
          rw [z3 _ _ hl] at z
          cases z
        have M1d : (upd HC ll (.lst ([.str w] ++ [.str "later"]))) M1 = _ := (upd_ne (off1 hl)).trans M1c
        have M2d : (upd HC ll (.lst ([.str w] ++ [.str "later"]))) M2 = _ := (upd_ne (off2 hl)).trans M2c
        have E1d := E1c.but (upd_but (o := (.lst ([.str w] ++ [.str "later"])))) na
        have E2d := E2c.but (upd_but (o := (.lst ([.str w] ++ [.str "later"])))) na
        have Ld : (upd HC ll (.lst ([.str w] ++ [.str "later"]))) L = _ := (upd_ne (ne_of hL3 hl (by intro z; cases z))).trans LC
        have nt : tt ≠ ll := ne_of h hl (by intro z; cases z)
        have SF := sh_t2 (ys := [w, "later"]) ((upd_ne nt).trans (z3 _ _ h)) (upd_same (H := HC)) hws (small2 hws small_later)
        refine ⟨_, rfl, _, rfl, _, _, rfl, SF.rp, SF.sh, SF.sz, SF.dp, M1, es1, _, _, rfl, M1d, E1d, SF, fun HD sD => ⟨true, rfl, ?_⟩⟩
        refine iteF ?_
        refine ⟨_, rfl, _, rfl, _, _, rfl, SF.rp.same sD, SF.sh, SF.sz, SF.dp, M2, es2, _, _, rfl, sD _ _ M2d, E2d.same sD, SF.same sD, fun HE sE => ⟨true, rfl, ?_⟩⟩
        refine iteF ?_
        exact ⟨_, _, _, _, _, _, _, _, rfl, (fun z => by cases z), sE _ _ (sD _ _ Ld)⟩
      | @dct aa ll h hl =>
        refine ⟨_, rfl, _, _, .type "dict", _, false, rfl, .ty _, .base (.dK (z3 _ _ h)), kit_ty (by decide +kernel), _, rfl, ?_⟩
        refine iteF ?_
        refine ⟨_, rfl, _, _, .type "dict", _, true, rfl, .ty _, .base (.dK (z3 _ _ h)), kit_ty (by decide +kernel), _, rfl, ?_⟩
        refine iteT ?_
        have nt : aa ≠ ll := ne_of h hl (by intro z; cases z)
        have dg : DGet HC aa (.str w) (some (.ref ll)) := by
          have := DGet.k (k := Sum.inr w) (z3 _ _ h)
          have e : valV [((Sum.inr w : Key), V.ref ll)] (Sum.inr w) = some (.ref ll) := by simp [valV]
          rw [e] at this
          exact this
        refine ⟨_, rfl, _, rfl, aa, _, rfl, dg, .inl ⟨rfl, _, SqL.of (z3 _ _ hl)⟩, _, _, _, rfl, rfl, z3 _ _ hl, (by show 1 < sizeLine; decide), ?_⟩
        have nae : aa ≠ ll := nt
        have hput : putK [((Sum.inr w : Key), V.ref ll)] (Sum.inr "LATER") (.int 1) = [(Sum.inr w, V.ref ll), (Sum.inr "LATER", .int 1)] := by
          have := word_LATER hw
          simp [putK, this]
        have h2 : (upd HC ll (.lst ([.str w] ++ [.str "later"]))) aa = some (.dK [(Sum.inr w, V.ref ll)]) := (upd_ne nae).trans (z3 _ _ h)
        refine ⟨_, rfl, aa, _, rfl, DPut.k (k := Sum.inr "LATER") h2 (by show 1 < sizeLine; decide), ?_⟩
        rw [hput]
        have na : ∀ φ, HC ll ≠ some (.ext φ) := fun φ z => by
          rw [z3 _ _ hl] at z
          cases z
        have nb : ∀ φ, (upd HC ll (.lst ([.str w] ++ [.str "later"]))) aa ≠ some (.ext φ) := fun φ z => by
          rw [h2] at z
          cases z
        have ha : (upd (upd HC ll (.lst ([.str w] ++ [.str "later"]))) aa (.dK [(Sum.inr w, V.ref ll), (Sum.inr "LATER", .int 1)])) aa = _ := upd_same
        have hb : (upd (upd HC ll (.lst ([.str w] ++ [.str "later"]))) aa (.dK [(Sum.inr w, V.ref ll), (Sum.inr "LATER", .int 1)])) ll = _ := (upd_ne nae.symm).trans upd_same
        have M1d : (upd (upd HC ll (.lst ([.str w] ++ [.str "later"]))) aa (.dK [(Sum.inr w, V.ref ll), (Sum.inr "LATER", .int 1)])) M1 = _ := (upd_ne (off1 h)).trans ((upd_ne (off1 hl)).trans M1c)
        have M2d : (upd (upd HC ll (.lst ([.str w] ++ [.str "later"]))) aa (.dK [(Sum.inr w, V.ref ll), (Sum.inr "LATER", .int 1)])) M2 = _ := (upd_ne (off2 h)).trans ((upd_ne (off2 hl)).trans M2c)
        have E1d := (E1c.but (upd_but (o := .lst ([.str w] ++ [.str "later"]))) na).but (upd_but (o := .dK [(Sum.inr w, V.ref ll), (Sum.inr "LATER", .int 1)])) nb
        have E2d := (E2c.but (upd_but (o := .lst ([.str w] ++ [.str "later"]))) na).but (upd_but (o := .dK [(Sum.inr w, V.ref ll), (Sum.inr "LATER", .int 1)])) nb
        have Ld : (upd (upd HC ll (.lst ([.str w] ++ [.str "later"]))) aa (.dK [(Sum.inr w, V.ref ll), (Sum.inr "LATER", .int 1)])) L = _ := (upd_ne (ne_of hL3 h (by intro z; cases z))).trans ((upd_ne (ne_of hL3 hl (by intro z; cases z))).trans LC)
        refine ⟨_, rfl, _, _, .type "dict", _, false, rfl, .ty _, .base (.dK ha), kit_ty (by decide +kernel), _, rfl, ?_⟩
        refine iteF ?_
        refine iteF ?_
        have SF := sh_dct2 (ys := [w, "later"]) ha hb hws (small2 hws small_later)
        refine ⟨_, rfl, _, rfl, _, _, rfl, SF.rp, SF.sh, SF.sz, SF.dp, M1, es1, _, _, rfl, M1d, E1d, SF, fun HD sD => ⟨true, rfl, ?_⟩⟩
        refine iteF ?_
        refine ⟨_, rfl, _, rfl, _, _, rfl, SF.rp.same sD, SF.sh, SF.sz, SF.dp, M2, es2, _, _, rfl, sD _ _ M2d, E2d.same sD, SF.same sD, fun HE sE => ⟨true, rfl, ?_⟩⟩
        refine iteF ?_
        exact ⟨_, _, _, _, _, _, _, _, rfl, (fun z => by cases z), sE _ _ (sD _ _ Ld)⟩
      | @l1 aa h =>
        refine ⟨_, rfl, _, _, .type "list", _, true, rfl, .ty _, .base (.lst (z3 _ _ h)), kit_ty (by decide +kernel), _, rfl, ?_⟩
        refine iteT ?_
        refine ⟨_, rfl, .inl ⟨rfl, _, SqL.of (z3 _ _ h)⟩, _, _, _, rfl, rfl, z3 _ _ h, (by show 1 < sizeLine; decide), ?_⟩
        have na : ∀ φ, HC aa ≠ some (.ext φ) := fun φ z => by
          rw [z3 _ _ h] at z
          cases z
        have M1d : (upd HC aa (.lst ([.str w] ++ [.str "later"]))) M1 = _ := (upd_ne (off1 h)).trans M1c
        have M2d : (upd HC aa (.lst ([.str w] ++ [.str "later"]))) M2 = _ := (upd_ne (off2 h)).trans M2c
        have E1d := E1c.but (upd_but (o := (.lst ([.str w] ++ [.str "later"])))) na
        have E2d := E2c.but (upd_but (o := (.lst ([.str w] ++ [.str "later"])))) na
        have Ld : (upd HC aa (.lst ([.str w] ++ [.str "later"]))) L = _ := (upd_ne (ne_of hL3 h (by intro z; cases z))).trans LC
        have ha : (upd HC aa (.lst ([.str w] ++ [.str "later"]))) aa = _ := upd_same
        refine ⟨_, rfl, _, _, .type "list", _, false, rfl, .ty _, .base (.lst ha), kit_ty (by decide +kernel), _, rfl, ?_⟩
        refine iteF ?_
        refine ⟨_, rfl, _, _, .type "list", _, false, rfl, .ty _, .base (.lst ha), kit_ty (by decide +kernel), _, rfl, ?_⟩
        refine iteF ?_
        refine iteF ?_
        have SF := sh_texts (ys := [w, "later"]) ha (small2 hws small_later)
        refine ⟨_, rfl, _, rfl, _, _, rfl, SF.rp, SF.sh, SF.sz, SF.dp, M1, es1, _, _, rfl, M1d, E1d, SF, fun HD sD => ⟨true, rfl, ?_⟩⟩
        refine iteF ?_
        refine ⟨_, rfl, _, rfl, _, _, rfl, SF.rp.same sD, SF.sh, SF.sz, SF.dp, M2, es2, _, _, rfl, sD _ _ M2d, E2d.same sD, SF.same sD, fun HE sE => ⟨true, rfl, ?_⟩⟩
        refine iteF ?_
        exact ⟨_, _, _, _, _, _, _, _, rfl, (fun z => by cases z), sE _ _ (sD _ _ Ld)⟩
      | @l2 aa bb cc h hb hc =>
        refine ⟨_, rfl, _, _, .type "list", _, true, rfl, .ty _, .base (.lst (z3 _ _ h)), kit_ty (by decide +kernel), _, rfl, ?_⟩
        refine iteT ?_
        refine ⟨_, rfl, .inl ⟨rfl, _, SqL.of (z3 _ _ h)⟩, _, _, _, rfl, rfl, z3 _ _ h, (by show 2 < sizeLine; decide), ?_⟩
        have na : ∀ φ, HC aa ≠ some (.ext φ) := fun φ z => by
          rw [z3 _ _ h] at z
          cases z
        have M1d : (upd HC aa (.lst ([.ref bb, .ref cc] ++ [.str "later"]))) M1 = _ := (upd_ne (off1 h)).trans M1c
        have M2d : (upd HC aa (.lst ([.ref bb, .ref cc] ++ [.str "later"]))) M2 = _ := (upd_ne (off2 h)).trans M2c
        have E1d := E1c.but (upd_but (o := (.lst ([.ref bb, .ref cc] ++ [.str "later"])))) na
        have E2d := E2c.but (upd_but (o := (.lst ([.ref bb, .ref cc] ++ [.str "later"])))) na
        have Ld : (upd HC aa (.lst ([.ref bb, .ref cc] ++ [.str "later"]))) L = _ := (upd_ne (ne_of hL3 h (by intro z; cases z))).trans LC
        have ha : (upd HC aa (.lst ([.ref bb, .ref cc] ++ [.str "later"]))) aa = _ := upd_same
        have hbc : (upd HC aa (.lst ([.ref bb, .ref cc] ++ [.str "later"]))) bb = some (.lst [.str w]) := (upd_ne (ne_of hb h (by intro z; cases z))).trans (z3 _ _ hb)
        have hcc : (upd HC aa (.lst ([.ref bb, .ref cc] ++ [.str "later"]))) cc = some (.dK [(Sum.inr "odd", .str w)]) := (upd_ne (ne_of hc h (by intro z; cases z))).trans (z3 _ _ hc)
        refine ⟨_, rfl, _, _, .type "list", _, false, rfl, .ty _, .base (.lst ha), kit_ty (by decide +kernel), _, rfl, ?_⟩
        refine iteF ?_
        refine ⟨_, rfl, _, _, .type "list", _, false, rfl, .ty _, .base (.lst ha), kit_ty (by decide +kernel), _, rfl, ?_⟩
        refine iteF ?_
        refine iteF ?_
        have SF := sh_l2 (ys := [w]) (zs := ["later"]) ha hbc hcc hws small_odd (small1 hws) (small1 small_later)
        refine ⟨_, rfl, _, rfl, _, _, rfl, SF.rp, SF.sh, SF.sz, SF.dp, M1, es1, _, _, rfl, M1d, E1d, SF, fun HD sD => ⟨true, rfl, ?_⟩⟩
        refine iteF ?_
        refine ⟨_, rfl, _, rfl, _, _, rfl, SF.rp.same sD, SF.sh, SF.sz, SF.dp, M2, es2, _, _, rfl, sD _ _ M2d, E2d.same sD, SF.same sD, fun HE sE => ⟨true, rfl, ?_⟩⟩
        refine iteF ?_
        exact ⟨_, _, _, _, _, _, _, _, rfl, (fun z => by cases z), sE _ _ (sD _ _ Ld)⟩
    · rintro σ H2 ⟨v1, v2, v3, v4, v5, v6, v7, v8, rfl, -, hLk⟩ e1 n1 e2 n2
      refine ⟨(by show 2 ≤ sizeLine; decide), fun lr nlr => ?_⟩
      have q1 : (upd (upd (upd H2 e1 (exo e1 (He.ga K "NothingToUndo") none)) e2 (exo e2 (He.ga K "NothingToRedo") none)) lr (.lst [.ref e1, .ref e2])) e1 = some (exo e1 (He.ga K "NothingToUndo") none) := same_new nlr _ _ (same_new n2 _ _ upd_same)
      have q2 : (upd (upd (upd H2 e1 (exo e1 (He.ga K "NothingToUndo") none)) e2 (exo e2 (He.ga K "NothingToRedo") none)) lr (.lst [.ref e1, .ref e2])) e2 = some (exo e2 (He.ga K "NothingToRedo") none) := same_new nlr _ _ upd_same
      have q3 : (upd (upd (upd H2 e1 (exo e1 (He.ga K "NothingToUndo") none)) e2 (exo e2 (He.ga K "NothingToRedo") none)) lr (.lst [.ref e1, .ref e2])) lr = some (.lst [.ref e1, .ref e2]) := upd_same
      have l1 : e1 ≠ lr := ne_of q1 q3 (by intro z; cases z)
      have l2 : e2 ≠ lr := ne_of q2 q3 (by intro z; cases z)
      have at2 : ∀ (i : Nat) (x : V), ([.ref e1, .ref e2] : List V)[i]? = some x → ∃ e y, x = V.ref e ∧ ErrIs (upd (upd (upd H2 e1 (exo e1 (He.ga K "NothingToUndo") none)) e2 (exo e2 (He.ga K "NothingToRedo") none)) lr (.lst [.ref e1, .ref e2])) e (He.ga K y) ∧ (upd (upd (upd H2 e1 (exo e1 (He.ga K "NothingToUndo") none)) e2 (exo e2 (He.ga K "NothingToRedo") none)) lr (.lst [.ref e1, .ref e2])) e = some (exo e (He.ga K y) none) ∧ y ∈ srcNames ∧ ((codes y 31).map fun i => V.int (i : Nat)) = ([(29 + i : Int)] : List Int).map V.int ∧ i < 2 ∧ twoTab (i + 1) = twoTab i ++ [[(29 + i : Int)]] := fun i x hi => by
        match i, hi with
        | 0, hi =>
          obtain rfl : V.ref e1 = x := Option.some.inj hi
          exact ⟨e1, "NothingToUndo", rfl, .inr q1, q1, by decide +kernel, by decide +kernel, by decide, rfl⟩
        | 1, hi =>
          obtain rfl : V.ref e2 = x := Option.some.inj hi
          exact ⟨e2, "NothingToRedo", rfl, .inr q2, q2, by decide +kernel, by decide +kernel, by decide, rfl⟩
        | n + 2, hi => cases hi
      refine ⟨_, rfl, lr, rfl, ⟨_, SqL.of q3⟩, fun D hD => ?_⟩
      refine lc_list (K := K) (a := lr) (xs := [.ref e1, .ref e2]) (fun i H3 => ∃ ls : List Addr, H3 D = some (.lst (ls.map V.ref)) ∧ Paired (fun l ns => l ≠ D ∧ H3 l = some (.lst (ns.map V.int))) ls (twoTab i) ∧ Same (upd (upd (upd H2 e1 (exo e1 (He.ga K "NothingToUndo") none)) e2 (exo e2 (He.ga K "NothingToRedo") none)) lr (.lst [.ref e1, .ref e2])) H3) ?_ ?_ ?_ ?_
      · exact ⟨[], upd_same, .nil, same_new hD⟩
      · rintro i H3 hi ⟨ls, h3, hp, s3⟩
        exact s3.seq (SqL.of q3)
      · rintro i x H3 hi ⟨ls, h3, hp, s3⟩
        obtain ⟨e, y, rfl, hA, hE, hy, hc, hi2, ht⟩ := at2 i x hi
        refine ⟨rfl, ?_⟩
        refine ⟨_, rfl, e, y, rfl, .inr (s3 _ _ hE), hy, fun l H4 nl s4 hl4 => ?_⟩
        rw [hc] at hl4
        have nlD : l ≠ D := fun z => by
          rw [z, h3] at nl
          cases nl
        refine ⟨_, s4 _ _ h3, ?_, ls ++ [l], ?_, ?_, fun b o z => ?_⟩
        · rw [List.length_map, Paired.length hp]
          refine small1000 ?_
          unfold twoTab
          rw [List.length_take]
          omega
        · rw [upd_same, List.map_append]
          rfl
        · rw [ht]
          refine Paired.snoc (Paired.mapP hp fun l' ns h => ⟨h.1, ?_⟩) ⟨nlD, ?_⟩
          · rw [upd_ne h.1]
            exact s4 _ _ h.2
          · rw [upd_ne nlD]
            exact hl4
        · rw [upd_ne (ne_of_none z hD)]
          exact s4 _ _ (s3 _ _ z)
      · rintro H3 ⟨ls, h3, hp, s3⟩
        refine ⟨(by show 1 ≤ sizeLine; decide), fun m1 nm1 => ⟨(by show 1 ≤ sizeLine; decide), fun m2 nm2 => ⟨(by show 2 ≤ sizeLine; decide), fun D2 nD2 => ?_⟩⟩⟩
        have t1 := same_new (o := .lst [.int 29]) nm1
        have t2 := same_new (o := .lst [.int 30]) nm2
        have t3 := same_new (o := .lst [.ref m1, .ref m2]) nD2
        have tt := (t1.trans t2).trans t3
        have hp2 : Paired (fun l ns => l ≠ D ∧ H3 l = some (.lst (ns.map V.int))) ls ([[29], [30]] : List (List Int)) := hp
        have d1 : Dp K _ (.ref D) (listsD ([[29], [30]] : List (List Int))) := .lst (SqL.of (tt _ _ h3)) (dp_lists (Paired.mapP hp2 fun l ns h => tt _ _ h.2))
        have hq : Paired (fun l (ns : List Int) => (upd (upd (upd H3 m1 (.lst [.int 29])) m2 (.lst [.int 30])) D2 (.lst [.ref m1, .ref m2])) l = some (.lst (ns.map V.int))) [m1, m2] ([[29], [30]] : List (List Int)) := .cons (t3 _ _ (t2 _ _ upd_same)) (.cons (t3 _ _ upd_same) .nil)
        have d2 : Dp K _ (.ref D2) (listsD ([[29], [30]] : List (List Int))) := .lst (SqL.of (xs := [.ref m1, .ref m2]) upd_same) (dp_lists hq)
        refine ⟨_, _, d1, d2, lists_shaped _, lists_shaped _, _, rfl, ?_⟩
        rw [lists_eqv]
        refine iteF ?_
        have u1 := tt _ _ (s3 _ _ q1)
        have u2 := tt _ _ (s3 _ _ q2)
        have u3 := tt _ _ (s3 _ _ q3)
        clear d1 d2 hq hp2 tt t1 t2 t3 hp h3
        -- append
        refine ⟨_, rfl, .inl ⟨rfl, _, SqL.of u3⟩, fun e3 n3 => ⟨_, _, _, rfl, rfl, same_new n3 _ _ u3, (by show 2 < sizeLine; decide), ?_⟩⟩
        have l3 : e3 ≠ lr := fun z => by
          rw [z, u3] at n3
          cases n3
        have n3r : e1 ≠ e3 := ne_of_none u1 n3
        have n4r : e2 ≠ e3 := ne_of_none u2 n3
        -- the facts of the heap with the three
        have g1 := (upd_ne (o := .lst ([.ref e1, .ref e2] ++ [.ref e3])) l1).trans (same_new (o := exo e3 (He.ga K "PairError") none) n3 _ _ u1)
        have g2 := (upd_ne (o := .lst ([.ref e1, .ref e2] ++ [.ref e3])) l2).trans (same_new (o := exo e3 (He.ga K "PairError") none) n3 _ _ u2)
        have g3 : (upd (upd (upd (upd (upd H3 m1 (.lst [.int 29])) m2 (.lst [.int 30])) D2 (.lst [.ref m1, .ref m2])) e3 (exo e3 (He.ga K "PairError") none)) lr (.lst ([.ref e1, .ref e2] ++ [.ref e3]))) e3 = some (exo e3 (He.ga K "PairError") none) := (upd_ne l3).trans upd_same
        have gl : (upd (upd (upd (upd (upd H3 m1 (.lst [.int 29])) m2 (.lst [.int 30])) D2 (.lst [.ref m1, .ref m2])) e3 (exo e3 (He.ga K "PairError") none)) lr (.lst ([.ref e1, .ref e2] ++ [.ref e3]))) lr = some (.lst [.ref e1, .ref e2, .ref e3]) := upd_same
        have at3 : ∀ (i : Nat) (x : V), ([.ref e1, .ref e2, .ref e3] : List V)[i]? = some x → ∃ e y, x = V.ref e ∧ (upd (upd (upd (upd (upd H3 m1 (.lst [.int 29])) m2 (.lst [.int 30])) D2 (.lst [.ref m1, .ref m2])) e3 (exo e3 (He.ga K "PairError") none)) lr (.lst ([.ref e1, .ref e2] ++ [.ref e3]))) e = some (exo e (He.ga K y) none) ∧ y ∈ srcNames ∧ i < 3 := fun i x hi => by
          match i, hi with
          | 0, hi =>
            obtain rfl : V.ref e1 = x := Option.some.inj hi
            exact ⟨e1, "NothingToUndo", rfl, g1, by decide +kernel, by decide⟩
          | 1, hi =>
            obtain rfl : V.ref e2 = x := Option.some.inj hi
            exact ⟨e2, "NothingToRedo", rfl, g2, by decide +kernel, by decide⟩
          | 2, hi =>
            obtain rfl : V.ref e3 = x := Option.some.inj hi
            exact ⟨e3, "PairError", rfl, g3, by decide +kernel, by decide⟩
          | n + 3, hi => cases hi
        refine ⟨_, rfl, lr, rfl, ⟨_, SqL.of gl⟩, fun D3 hD3 => ?_⟩
        refine lc_list (K := K) (a := lr) (xs := [.ref e1, .ref e2, .ref e3]) (fun i H5 => H5 D3 = some (.lst ((List.replicate i true).map V.bl)) ∧ Same (upd (upd (upd (upd (upd H3 m1 (.lst [.int 29])) m2 (.lst [.int 30])) D2 (.lst [.ref m1, .ref m2])) e3 (exo e3 (He.ga K "PairError") none)) lr (.lst ([.ref e1, .ref e2] ++ [.ref e3]))) H5) ?_ ?_ ?_ ?_
        · exact ⟨upd_same, same_new hD3⟩
        · rintro i H5 hi ⟨h5, s5⟩
          exact s5.seq (SqL.of gl)
        · rintro i x H5 hi ⟨h5, s5⟩
          obtain ⟨e, y, rfl, hE, hy, hi3⟩ := at3 i x hi
          refine ⟨rfl, ?_⟩
          refine ⟨_, rfl, e, y, rfl, .inr (s5 _ _ hE), hy, ?_⟩
          refine ⟨_, h5, ?_, ?_, fun b o z => ?_⟩
          · rw [List.length_map, List.length_replicate]
            exact small1000 (by omega)
          · rw [upd_same, List.replicate_succ', List.map_append]
            rfl
          · rw [upd_ne (ne_of_none z hD3)]
            exact s5 _ _ z
        · rintro H5 ⟨h5, s5⟩
          refine ⟨D3, List.replicate 3 true, rfl, SqL.of h5, true, rfl, ?_⟩
          refine iteT ?_
          refine ⟨_, rfl, lr, _, _, _, rfl, rfl, SqL.of (s5 _ _ gl), atI_nat (j := 2) rfl, e3, "PairError", rfl, .inr (s5 _ _ g3), by decide +kernel, fun l H6 nl s6 hl => ?_⟩
          refine ⟨(by show 0 ≤ sizeLine; decide), fun p np => ?_⟩
          have e0 : (V.bl (PyData.eqv (.list []) (.list []))) = .bl true := by decide
          have ec : ((codes "PairError" 31).map fun i => V.int (i : Nat)) = [] := by decide +kernel
          rw [ec] at hl
          refine ⟨.list [], .list [], .lst (SqL.of (same_new np _ _ hl)) .nil, .lst (SqL.of upd_same) .nil, rfl, rfl, ?_⟩
          rw [e0]
          exact k _
end
end Yt

set_option Elab.async false
set_option linter.all false
set_option maxRecDepth 100000
set_option maxHeartbeats 2000000
namespace Yt
open PySem PySem.Spec PyProof.Rows L2
/-- the law's call, where the promise wants that no guard stands -/
theorem law_callG {P : Program} {w : World} {K : PySem.W.Frag} {mg mb : Str → Option Value} {k : Nat} {fa a : Addr} {fd : FuncData} {x : Str} {sp : Sp} {s₁ : Shared} {vs : List Value} {ns : List Int}
    (KX : K.In s₁.heap) (hns : s₁.heap.Ns mainGlobals mg) (hb : s₁.heap.Ns builtinsNs mb) (hbb : ∀ x : Str, x ≠ "__name__" → mb x = bootBuiltins x) (hlim : s₁.heap.NoLimit) (hg : s₁.gens = #[])
    (ha : s₁.heap.get? a = some { cls := Value.type "list", data := Data.seq vs.toArray }) (hi : IntsAre vs ns) (hl : ns.length ≤ sizeLine) (hr : Room k callerA)
    (F : ∀ base : Heap, K.In base → base.Ns mainGlobals mg → FnOkG P w K mg base CX0 k fa fd [x] sp) (hbind : ∀ (s : Shared) (u : Value), BindsTo s fd { pos := [u] } [(x, u)])
    (hsp : ∀ H : Hp, Only H → SqL K H a (ns.map V.int) → sp [V.ref a] H (fun v _ => v = V.bl true) fun _ _ _ => False) :
    codeAny (model P w) callerA (Code.call (Value.ref fa) { pos := [Value.ref a] }) (fun r s' => r = Except.ok (Flow.ret (Value.bool true)) ∧ OldK s₁.heap s'.heap ∧ s'.os = s₁.os ∧ AllBare s'.gens) s₁ := by
  have rv := vals_ints hi
  have lenV := IntsAre.length hi
  have core : ∀ H : Hp, Only H → SqL K H a (ns.map V.int) → HOk P w H s₁.heap → (∀ b, H b ≠ none → b = a) → (H a ≠ none → List.lookup a K = none) →
      codeAny (model P w) callerA (Code.call (Value.ref fa) { pos := [Value.ref a] }) (fun r s' => r = Except.ok (Flow.ret (Value.bool true)) ∧ OldK s₁.heap s'.heap ∧ s'.os = s₁.os ∧ AllBare s'.gens) s₁ := by
    intro H hO hS hok hA hK
    have noA : ∀ {b : Addr} {o : Obj} {es ep}, s₁.heap.get? b = some o → o.data = Data.dict es ep → H b = none := by
      intro b o es ep e d
      cases q : H b with
      | none => rfl
      | some u =>
        have e' := hA b (by rw [q]; intro z; cases z)
        subst e'
        rw [ha] at e
        obtain rfl := Option.some.inj e
        cases d
    have nsK : ∀ {b : Addr} {m : Str → Option Value}, s₁.heap.Ns b m → (hidT s₁.heap H).Ns b m := by
      rintro b m ⟨o, es, ep, e, d, r⟩
      exact ⟨o, es, ep, hidT_get e (noA e d), d, r⟩
    have hKb : K.In (hidT s₁.heap H) := fun b o e => hidT_get (KX b o e) (by
      cases q : H b with
      | none => rfl
      | some u =>
        have e' := hA b (by rw [q]; intro z; cases z)
        subst e'
        rw [hK (by rw [q]; intro z; cases z)] at e
        cases e)
    have hM : L2.Mod K mg (hidT s₁.heap H) :=
      { kin := hKb, glob := nsK hns, blt := ⟨mb, nsK hb, hbb⟩,
        nolimit := by
          obtain ⟨mc, h1, h2⟩ := hlim
          exact ⟨mc, nsK h1, h2⟩ }
    have e0 : Env0 P w K mg (hidT s₁.heap H) callerA [] s₁ H :=
      { frames := rfl, mod := hM, bs := fun b o e => of_hidT e, bsz := Nat.le_of_eq (hidT_size s₁.heap H), funs := trivial,
        frf := fun b hb => absurd hb (by simp [frs]), hok := hok, bare := AllBare.of_eq hg }
    refine codeAny_mono ((F (hidT s₁.heap H) hKb (nsK hns)).run callerA [] s₁ H { pos := [Value.ref a] } [Value.ref a] [V.ref a] (fun v _ => v = V.bl true) (fun _ _ _ => False) rfl hr e0 (hbind s₁ (Value.ref a)) (.cons rfl .nil) (hsp H hO hS)) ?_
    intro r s' h
    cases r with
    | error e => exact False.elim h
    | ok fl =>
      cases fl with
      | ret u =>
        obtain ⟨v, H', os, bare, un, hok', r', q⟩ := h
        subst q
        obtain rfl : u = Value.bool true := r'
        refine ⟨rfl, OldK.of_keep fun b o e => ?_, os, bare⟩
        cases q : H b with
        | none => exact un.keep b o e q (fun z => absurd z (by simp [frs])) (by simp)
        | some u =>
          rcases hO b with z | ⟨ob, xs, z⟩
          · rw [q] at z
            cases z
          · have z2 := un.frzs b ob (HO.lst xs) z
            obtain ⟨e1, _⟩ := hok b _ z
            obtain ⟨e2, _⟩ := hok' b _ z2
            rw [e] at e1
            cases e1
            exact e2
      | next => exact False.elim h
      | brk => exact False.elim h
      | cont => exact False.elim h
  cases hk : List.lookup a K with
  | none =>
    refine core (fun b => if b = a then some (HO.frz { cls := Value.type "list", data := Data.seq vs.toArray } (HO.lst (ns.map V.int))) else none) (fun b => ?_) (Or.inl (Or.inr ⟨_, if_pos rfl⟩)) (fun b u z => ?_) (fun b z => ?_) (fun _ => hk)
    · by_cases hb : b = a
      · exact Or.inr ⟨_, _, if_pos hb⟩
      · exact Or.inl (if_neg hb)
    · by_cases hb : b = a
      · subst hb
        have z' := (if_pos rfl).symm.trans z
        cases z'
        refine ⟨ha, ?_, vs, 0, rv, ha⟩
        rw [List.length_map]
        exact hl
      · have z' := (if_neg hb).symm.trans z
        cases z'
    · by_cases hb : b = a
      · exact hb
      · exact absurd (if_neg hb) z
  | some o =>
    have e := KX a o hk
    rw [ha] at e
    cases e
    refine core (fun _ => none) (fun _ => Or.inl rfl) (Or.inr ⟨_, vs.toArray, 0, hk, rfl, rfl, rfl, ?_, ?_⟩) (fun b u z => by cases z) (fun b z => absurd rfl z) (fun z => absurd rfl z)
    · rw [List.size_toArray, lenV]
      exact hl
    · exact rv
theorem walk_ofG {l : PySem.W.OpenLaw} {n k : Nat} {q : Program} {loose : List Str} {XP : (Str → Option Value) → Heap → Prop} {YP : World → Heap → Prop} {d : DefRec} {x : Str} (hn : l.most = some n) (hn2 : n ≤ sizeLine) (hdf : d.params.defaults = []) (hr : Room k callerA)
    (F : ∀ (w : World) (mg : Str → Option Value) (fa : Addr) (h : Heap), YP w h → h.Ns mainGlobals mg → mg d.name = some (Value.ref fa) →
      ∃ K fd sp, K.In h ∧ (∀ (s : Shared) (u : Value), BindsTo s fd { pos := [u] } [(x, u)]) ∧ (∀ (H : Hp) (a : Addr) (ns : List Int), ns.length ≤ n → Only H → SqL K H a (ns.map V.int) → sp [V.ref a] H (fun v _ => v = V.bl true) fun _ _ _ => False) ∧
        ∀ base : Heap, K.In base → base.Ns mainGlobals mg → FnOkG l.prog w K mg base CX0 k fa fd [x] sp) :
    PySem.W.WalkO q loose XP YP l.row.toRowW d [] fun f vs => call f vs := by
  refine Att.attach_call hn hdf fun w s₀ s₁ mg mb fa o pm cd doc a vs ns G Y ho hd hcd hmg hobj hints hlen hg => ?_
  obtain ⟨K, fd, sp, KX, hb, hsp, hF⟩ := F w mg fa s₁.heap Y G.T.g hmg
  exact law_callG KX G.T.g G.T.b G.T.builtins G.T.nolimit hg hobj hints (Nat.le_trans hlen hn2) hr hF hb (fun H hO hS => hsp H a ns hlen hO hS)
end Yt

set_option Elab.async false
set_option linter.all false
set_option maxRecDepth 100000
set_option maxHeartbeats 2000000
namespace Yt
open PySem PySem.Spec PyProof.Rows L2
/-! ### def __init__(self, value=None): self.value = value -/
abbrev initArgs (p1 p2 p3 : Pos) : Arguments := { posonlyargs := [], args := [⟨"self", none, p1⟩, ⟨"value", none, p2⟩], vararg := none, kwonlyargs := [], kw_defaults := [], kwarg := none, defaults := [.Constant .none 0 p3] }
abbrev initScope : Scope := { kind := .function, names := [("self", .local), ("value", .local)], isGenerator := false, isCoroutine := false, more := [] }
abbrev initBody (p1 p2 p3 p4 : Pos) : List Stmt := [.Assign [.Attribute (.Name "self" p1) "value" p2] (.Name "value" p3) p4]
section
variable {P : Program} {w : World} {K : PySem.W.Frag} {mg : Str → Option Value} {base : Heap} {f : Addr} {fd : FuncData} {x q : Str} {a1 a2 a3 b1 b2 b3 b4 : Pos}
theorem scInit : FnScope ["self", "value"] ["self", "value"] initScope := ⟨rfl, rfl, rfl, by decide +kernel, rfl, by decide +kernel, by decide +kernel⟩
theorem ok_init (F : FunD K x q (initArgs a1 a2 a3) (initBody b1 b2 b3 b4) initScope [.non] [] f fd) : FnOk P w K mg base CX0 1 f fd ["self", "value"] (spErr K) := by
  refine F.ok scInit (fun vs H Q E h => ?_) (fun cdv A outer s H vs Q E hr h => ?_)
  · obtain ⟨a, C, v, rfl, _⟩ := h
    rfl
  · obtain ⟨a, C, v, rfl, hH, hO, hN, k⟩ := h
    refine ⟨_, PSs.nox (pss_one (ps_ost (pv 0) (pv 1))), ?_⟩
    exact ⟨_, rfl, _, rfl, a, C, rfl, hO, hN, .inl ⟨hH, fun dx h1 h2 => k dx h1 h2⟩⟩
theorem bind_init (F : FunD K x q (initArgs a1 a2 a3) (initBody b1 b2 b3 b4) initScope [.non] [] f fd) : ErrB K fd := by
  obtain ⟨d2, v2, B2⟩ := F.binds1 (ps := ["self", "value"]) 2 1 (by simp) rfl (fun T kV doc pm an cdv ct us its hu hi => by
    match us, its, hu, hi with
    | [a, b], [d], _, _ => exact ⟨_, rfl, rfl⟩)
  obtain ⟨d1, v1, B1⟩ := F.binds1 (ps := ["self", "value"]) 1 0 (by simp) rfl (fun T kV doc pm an cdv ct us its hu hi => by
    match us, its, hu, hi with
    | [a], [d], _, _ => exact ⟨_, rfl, rfl⟩)
  obtain ⟨its, BK⟩ := F.kbindsD (ps := ["self", "value"]) 1 ["value"] (fun us _ ws => us ++ ws) (by simp) (fun a _ c => a.append c) (fun T kV doc pm an cdv ct us its ws hu hi hw => by
    match us, its, ws, hu, hi, hw with
    | [a], [d], [u], _, _, _ => exact ⟨_, rfl, rfl⟩)
  have e2 : d2 = [] := by
    cases v2
    rfl
  have e1 : d1 = [Value.none] := by
    cases v1 with
    | cons r t =>
      cases t
      obtain rfl : _ = Value.none := r
      rfl
  subst e2
  subst e1
  exact ⟨fun s self u hk => B2 s [self, u] hk rfl, fun s self u hk => BK.to s [self] [u] hk rfl rfl, fun s self hk => B1 s [self] hk rfl⟩
end
end Yt

set_option Elab.async false
set_option linter.all false
set_option maxRecDepth 100000
set_option maxHeartbeats 2000000
namespace Yt
open PySem PySem.Spec PyProof.Rows L2
/-! ### the head: what is asked of the written part -/
def isFn : Stmt → Bool
  | .FunctionDef .. => true
  | _ => false
/-- the first def in a class -/
def initOf (s : Stmt) : Stmt :=
  match s with
  | .ClassDef _ _ _ b _ _ _ _ _ _ _ => (b.find? isFn).getD (.Pass ⟨0, 0, 0, 0⟩)
  | s => s
abbrev defNames : List (Str × Nat) := [("_law_purse", 34), ("_law_mixed", 35), ("_law_draw", 36), ("_law_purses", 37), ("_law_one_of", 38), ("_law_word", 39), ("_law_first", 40), ("_law_called", 41), ("_law_bare", 42), ("_law_code", 43), ("_law_is_error", 44), ("_law_right", 45), ("law", 46)]
def dF (p : Str × Nat) : He.DefD := ⟨(p.1, none), p.1, p.1, defArgs (top p.2), defBody (top p.2), defScope (top p.2), [], []⟩
def dI (i : Nat) : He.DefD := ⟨(fieldNames.getD i "", some "__init__"), "__init__", fieldNames.getD i "" ++ (".__init__" : Str), defArgs (initOf (top (i + 2))), defBody (initOf (top (i + 2))), defScope (initOf (top (i + 2))), [.non], []⟩
def fnY : List He.DefD := defNames.map dF ++ (List.range 29).map dI
abbrev freeNames : List Str := ["int", "sum", "max", "min", "range", "len", "isinstance", "ValueError", "repr", "list", "dict", "tuple", "all"]
def faY : List He.Fa := defNames.map (fun p => .glo p.1) ++ (srcNames.map (fun x => .glo x) ++ freeNames.map fun x => .free x)
def oexB (K : PySem.W.Frag) (C : Addr) : Bool :=
  (match List.lookup C K with
    | some ⟨.type "type", _, .cls cd, sl⟩ =>
      match cd.mro, sl.toList with
      | .ref C' :: bm, [_, _, _, _, some (.builtin n), _] => decide (C' = C) && (decide (n = "ValueError.__new__") && (!cd.hasDel && (cd.hasDict && HandSPX.refsVE bm)))
      | _, _ => false
    | _ => false) &&
  (He.eqO (PySem.W.findIn K (.ref C) "__setattr__") (some (some (.builtin "object.__setattr__"))) &&
  (decide (PySem.W.subIn K (.ref C) (.type "BaseException") = some true) &&
  (decide (PySem.W.typeIn K (.ref C) = some (.type "type")) && PySem.W.keepIn K (.ref C))))
theorem oex_of {K : PySem.W.Frag} {C : Addr} (h : oexB K C = true) : OexC K C := by
  unfold oexB at h
  simp only [Bool.and_eq_true, decide_eq_true_eq] at h
  obtain ⟨h0, h1, h2, h3, h4⟩ := h
  refine ⟨?_, He.eqO_ok h1, h2, h3, h4⟩
  split at h0
  · rename_i dd cd sl e
    split at h0
    · rename_i C' bm k0 k1 k2 k3 n k5 em es
      simp only [Bool.and_eq_true, decide_eq_true_eq, Bool.not_eq_true'] at h0
      obtain ⟨c1, c2, c3, c4, c5⟩ := h0
      subst c1 c2
      obtain ⟨nm, bs, mro, N, q, hd, sn, sub, ab, col, del⟩ := cd
      obtain ⟨sl⟩ := sl
      simp only at em es c3 c4
      subst em es c3 c4
      exact ⟨nm, q, N, bs, bm, sn, sub, ab, col, dd, k0, k1, k2, k3, k5, e, c5⟩
    · cases h0
  · cases h0
def excB (K : PySem.W.Frag) (D : Addr) : Bool :=
  He.eqO (PySem.W.findIn K (.ref D) "__getattribute__") (some (some (.builtin "BaseException.__getattribute__"))) &&
  (He.eqO (PySem.W.findIn K (.ref D) "__getattr__") (some none) &&
  (decide (PySem.W.subIn K (.ref D) (.type "BaseException") = some true) &&
  (PySem.W.hasDictIn K D &&
  (He.eqO (PySem.W.findIn K (.ref D) "__class__") (some (some (.builtin "object.__class__"))) &&
  (He.eqO (PySem.W.specialIn K (.builtin "object.__class__") "__get__") (some (some (.builtin "getset_descriptor.__get__"))) &&
  (decide (PySem.W.takesIn K (.builtin "object.__class__") = some true) &&
  decide (PySem.W.mroIn K D (.type "object") = some true)))))))
theorem exc_of {K : PySem.W.Frag} {D : Addr} (h : excB K D = true) : ExcC K D := by
  unfold excB at h
  simp only [Bool.and_eq_true, decide_eq_true_eq] at h
  obtain ⟨h1, h2, h3, h4, h5, h6, h7, h8⟩ := h
  exact ⟨He.eqO_ok h1, He.eqO_ok h2, h3, h4, He.eqO_ok h5, He.eqO_ok h6, h7, h8⟩
def iniB (K : PySem.W.Frag) (x : Str) : Bool :=
  oexB K (He.ga K x) &&
  (He.eqO (PySem.W.findIn K (.ref (He.ga K x)) "__init__") (some (some (.ref (He.fAd K (x, some "__init__"))))) &&
  (decide (PySem.W.typeIn K (.ref (He.fAd K (x, some "__init__"))) = some (.type "function")) &&
  He.eqO (PySem.W.findIn K (.ref (He.ga K x)) "value") (some none)))
def kitB (K : PySem.W.Frag) (y : Str) : Bool :=
  (allNames.all fun x => decide (PySem.W.kitOne K (.ref (He.ga K y)) (.ref (He.ga K x)) = some (decide (y = x)))) &&
  (decide (PySem.W.kitOne K (.ref (He.ga K y)) (.ref (He.ga K "PairError")) = some true) &&
  decide (PySem.W.kitOne K (.ref (He.ga K y)) (.type "ValueError") = some true))
def bareB (K : PySem.W.Frag) (x : Str) : Bool := PySem.W.excIn K (He.ga K x) He.veBase "ValueError.__new__" && PySem.W.keepIn K (.ref (He.ga K x))
abbrev bareNames : List Str := ["NothingToUndo", "NothingToRedo", "PairError"]
def moreB (K : PySem.W.Frag) : Bool :=
  fieldNames.all (iniB K) && (srcNames.all (fun y => excB K (He.ga K y)) && (srcNames.all (kitB K) && (bareNames.all (bareB K) && (List.lookup sysModules K).isSome)))
def asY (g : Addr → Option Obj) : List Addr := sysModules :: He.asD g 4
def obY (g : Addr → Option Obj) : He.AlD × Bool := (He.obsD faY fnY (He.frG g (asY g)), moreB (He.frG g (asY g)))
def hkY : PySem.W.Hook where
  α := He.AlD × Bool
  obs := fun s => obY s.heap.get?
  val := fun _ => (He.valD fnY, true)
  says := fun _ h => ∃ K : PySem.W.Frag, K.In h ∧ He.SaysD faY fnY K ∧ moreB K = true
  of := fun _ s e => ⟨_, He.frG_in, congrArg Prod.fst e, congrArg Prod.snd e⟩
  keeps := fun _ _ _ ⟨K, a, b⟩ k => ⟨K, fun x o e => k _ _ (a x o e), b⟩
def obT (s : PySem.W.SharedT) : He.AlD × Bool := obY (HandSHeadRun.getT s)
theorem obT_eq (s : PySem.W.SharedT) : obT s = hkY.obs s.abs := by
  show obY _ = obY _
  rw [funext (HandSHeadRun.getT_eq s)]
abbrev R : PySem.W.OpenRow := PySem.W.OpenLaw.row PySem.Challenge.rw_pairtells_k01_errors_made
abbrev looseY : List Str := srcNames ++ (defNames.take 12).map Prod.fst
end Yt

set_option Elab.async false
set_option linter.all false
set_option maxRecDepth 100000
set_option maxHeartbeats 0
namespace Yt
open PySem PySem.Spec PyProof.Rows L2
theorem run (w : World) : HandSHeadRun.RunEq R (PySem.W.view R.prog [46]) hkY obT 10000 looseY w := by
  intro os
  kernel_rfl
end Yt

set_option Elab.async false
set_option linter.all false
set_option maxRecDepth 100000
set_option maxHeartbeats 0
namespace Yt
open PySem PySem.Spec PyProof.Rows L2
/-! ### what the head's words say -/
theorem fact_mem {fa : List He.Fa} {fn : List He.DefD} {K : PySem.W.Frag} (c : He.SaysD fa fn K) {f : He.Fa} (h : f ∈ fa) : He.Fa.ok K f = true := by
  obtain ⟨i, e⟩ := List.mem_iff_getElem?.mp h
  exact c.fact i e
theorem def_mem {fa : List He.Fa} {fn : List He.DefD} {K : PySem.W.Frag} (c : He.SaysD fa fn K) {d : He.DefD} (h : d ∈ fn) : ∃ fd, FunD K d.name d.qual d.params d.body d.scope (He.DefD.dvs K d) (He.DefD.kws K d) (He.fAd K d.at_) fd := by
  obtain ⟨i, e⟩ := List.mem_iff_getElem?.mp h
  exact c.def_ i e
section
variable {K : PySem.W.Frag} {h : Heap} {mg : Str → Option Value}
theorem def_law (c : He.SaysD faY fnY K) {p : Str × Nat} (m : p ∈ defNames) : ∃ fd, FnP K p.1 (top p.2) (He.ga K p.1) fd :=
  def_mem c (d := dF p) (List.mem_append_left _ (List.mem_map_of_mem m))
theorem def_ini (c : He.SaysD faY fnY K) {i : Nat} (m : i < 29) : ∃ fd, FunD K "__init__" (fieldNames.getD i "" ++ (".__init__" : Str)) (defArgs (initOf (top (i + 2)))) (defBody (initOf (top (i + 2)))) (defScope (initOf (top (i + 2)))) [.non] [] (He.fAd K (fieldNames.getD i "", some "__init__")) fd :=
  def_mem c (d := dI i) (List.mem_append_right _ (List.mem_map_of_mem (List.mem_range.mpr m)))
theorem glo_def (X : K.In h) (G : h.Ns mainGlobals mg) (c : He.SaysD faY fnY K) {p : Str × Nat} (m : p ∈ defNames) : mg p.1 = some (.ref (He.ga K p.1)) :=
  He.glo_ok X G (fact_mem c (f := .glo p.1) (List.mem_append_left _ (List.mem_map_of_mem (f := fun p : Str × Nat => He.Fa.glo p.1) m)))
theorem glo_src (X : K.In h) (G : h.Ns mainGlobals mg) (c : He.SaysD faY fnY K) {x : Str} (m : x ∈ srcNames) : mg x = some (.ref (He.ga K x)) :=
  He.glo_ok X G (fact_mem c (f := .glo x) (List.mem_append_right _ (List.mem_append_left _ (List.mem_map_of_mem (f := fun x => He.Fa.glo x) m))))
theorem free_y (X : K.In h) (G : h.Ns mainGlobals mg) (c : He.SaysD faY fnY K) {x : Str} (m : x ∈ freeNames) : mg x = none :=
  He.free_ok X G (fact_mem c (f := .free x) (List.mem_append_right _ (List.mem_append_right _ (List.mem_map_of_mem (f := fun x => He.Fa.free x) m))))
/-- the written __init__s are of the one form -/
theorem ini_form : ∀ i : Nat, i < 29 → ∃ a1 a2 a3 b1 b2 b3 b4, defArgs (initOf (top (i + 2))) = initArgs a1 a2 a3 ∧ defBody (initOf (top (i + 2))) = initBody b1 b2 b3 b4 ∧ defScope (initOf (top (i + 2))) = initScope := by
  intro i hi
  match i, hi with
  | 0, _ => exact ⟨_, _, _, _, _, _, _, rfl, rfl, rfl⟩
  | 1, _ => exact ⟨_, _, _, _, _, _, _, rfl, rfl, rfl⟩
  | 2, _ => exact ⟨_, _, _, _, _, _, _, rfl, rfl, rfl⟩
  | 3, _ => exact ⟨_, _, _, _, _, _, _, rfl, rfl, rfl⟩
  | 4, _ => exact ⟨_, _, _, _, _, _, _, rfl, rfl, rfl⟩
  | 5, _ => exact ⟨_, _, _, _, _, _, _, rfl, rfl, rfl⟩
  | 6, _ => exact ⟨_, _, _, _, _, _, _, rfl, rfl, rfl⟩
  | 7, _ => exact ⟨_, _, _, _, _, _, _, rfl, rfl, rfl⟩
  | 8, _ => exact ⟨_, _, _, _, _, _, _, rfl, rfl, rfl⟩
  | 9, _ => exact ⟨_, _, _, _, _, _, _, rfl, rfl, rfl⟩
  | 10, _ => exact ⟨_, _, _, _, _, _, _, rfl, rfl, rfl⟩
  | 11, _ => exact ⟨_, _, _, _, _, _, _, rfl, rfl, rfl⟩
  | 12, _ => exact ⟨_, _, _, _, _, _, _, rfl, rfl, rfl⟩
  | 13, _ => exact ⟨_, _, _, _, _, _, _, rfl, rfl, rfl⟩
  | 14, _ => exact ⟨_, _, _, _, _, _, _, rfl, rfl, rfl⟩
  | 15, _ => exact ⟨_, _, _, _, _, _, _, rfl, rfl, rfl⟩
  | 16, _ => exact ⟨_, _, _, _, _, _, _, rfl, rfl, rfl⟩
  | 17, _ => exact ⟨_, _, _, _, _, _, _, rfl, rfl, rfl⟩
  | 18, _ => exact ⟨_, _, _, _, _, _, _, rfl, rfl, rfl⟩
  | 19, _ => exact ⟨_, _, _, _, _, _, _, rfl, rfl, rfl⟩
  | 20, _ => exact ⟨_, _, _, _, _, _, _, rfl, rfl, rfl⟩
  | 21, _ => exact ⟨_, _, _, _, _, _, _, rfl, rfl, rfl⟩
  | 22, _ => exact ⟨_, _, _, _, _, _, _, rfl, rfl, rfl⟩
  | 23, _ => exact ⟨_, _, _, _, _, _, _, rfl, rfl, rfl⟩
  | 24, _ => exact ⟨_, _, _, _, _, _, _, rfl, rfl, rfl⟩
  | 25, _ => exact ⟨_, _, _, _, _, _, _, rfl, rfl, rfl⟩
  | 26, _ => exact ⟨_, _, _, _, _, _, _, rfl, rfl, rfl⟩
  | 27, _ => exact ⟨_, _, _, _, _, _, _, rfl, rfl, rfl⟩
  | 28, _ => exact ⟨_, _, _, _, _, _, _, rfl, rfl, rfl⟩
  | n + 29, h => omega
structure More (K : PySem.W.Frag) : Prop where
  ini : ∀ x ∈ fieldNames, iniB K x = true
  exc : ∀ y ∈ srcNames, excB K (He.ga K y) = true
  kit : ∀ y ∈ srcNames, kitB K y = true
  bare : ∀ x ∈ bareNames, bareB K x = true
  sys : ∃ o, List.lookup sysModules K = some o
theorem more_of (h : moreB K = true) : More K := by
  unfold moreB at h
  simp only [Bool.and_eq_true] at h
  obtain ⟨h1, h2, h3, h4, h5⟩ := h
  exact ⟨List.all_eq_true.mp h1, List.all_eq_true.mp h2, List.all_eq_true.mp h3, List.all_eq_true.mp h4, Option.isSome_iff_exists.mp h5⟩
theorem err_c (M : More K) {x : Str} (m : x ∈ fieldNames) (ms : x ∈ srcNames) : ErrC K (He.ga K x) (He.fAd K (x, some "__init__")) := by
  have h := M.ini x m
  unfold iniB at h
  simp only [Bool.and_eq_true, decide_eq_true_eq] at h
  obtain ⟨h1, h2, h3, h4⟩ := h
  exact ⟨oex_of h1, He.eqO_ok h2, h3, He.eqO_ok h4, exc_of (M.exc x ms)⟩
theorem src_of {x : Str} (m : x ∈ fieldNames) : x ∈ srcNames := List.mem_append_left _ (List.mem_append_left _ m)
theorem err_ok {P : Program} {w : World} {base : Heap} (X : K.In h) (G : h.Ns mainGlobals mg) (c : He.SaysD faY fnY K) (M : More K) : ∀ x ∈ fieldNames, ErrOk P w K mg base x (He.ga K x) := by
  intro x m
  refine ⟨glo_src X G c (src_of m), ?_⟩
  obtain ⟨i, e⟩ := List.mem_iff_getElem?.mp m
  have hi : i < 29 := (List.getElem?_eq_some_iff.mp e).1
  obtain ⟨fd, F⟩ := def_ini c hi
  obtain ⟨a1, a2, a3, b1, b2, b3, b4, e1, e2, e3⟩ := ini_form i hi
  have ex : fieldNames.getD i "" = x := by rw [List.getD_eq_getElem?_getD, e]; rfl
  rw [e1, e2, e3, ex] at F
  exact ⟨_, fd, err_c M m (src_of m), ok_init F, bind_init F⟩
theorem is_ok (X : K.In h) (G : h.Ns mainGlobals mg) (c : He.SaysD faY fnY K) (M : More K) : ∀ x ∈ allNames, IsOk K mg x := by
  intro x m
  refine ⟨glo_src X G c (List.mem_append_left _ m), fun y my => ?_⟩
  have h := M.kit y my
  unfold kitB at h
  simp only [Bool.and_eq_true] at h
  exact of_decide_eq_true (List.all_eq_true.mp h.1 x m)
theorem bare_ok (X : K.In h) (G : h.Ns mainGlobals mg) (c : He.SaysD faY fnY K) (M : More K) {x : Str} (m : x ∈ bareNames) (ms : x ∈ srcNames) : BareOk K mg x := by
  have h := M.bare x m
  unfold bareB at h
  simp only [Bool.and_eq_true] at h
  exact ⟨glo_src X G c ms, h.1, h.2⟩
end
theorem facts {P : Program} {w : World} {K : PySem.W.Frag} {h : Heap} {mg : Str → Option Value} {f : Addr} (X : K.In h) (G : h.Ns mainGlobals mg) (hfa : mg ("law" : Str) = some (.ref f)) (c : He.SaysD faY fnY K) (hm : moreB K = true) :
    ∃ fd : FuncData, (∀ (s : Shared) (v : Value), BindsTo s fd ⟨[v], []⟩ [("_law_script", v)]) ∧ ∀ base : Heap, K.In base → base.Ns mainGlobals mg → FnOkG P w K mg base CX0 4 f fd ["_law_script"] (spLaw K) := by
  have M := more_of hm
  have fr : ∀ {x : Str}, x ∈ freeNames → mg x = none := fun m => free_y X G c m
  have gd : ∀ {p : Str × Nat}, p ∈ defNames → mg p.1 = some (.ref (He.ga K p.1)) := fun m => glo_def X G c m
  have N1 : Nm mg := ⟨fr (by decide), fr (by decide), fr (by decide), fr (by decide), fr (by decide), fr (by decide)⟩
  have N2 : Nm2 K mg := ⟨fr (by decide), fr (by decide), fr (by decide), fr (by decide), fun y my => exc_of (M.exc y my)⟩
  have kt : ∀ y ∈ srcNames, PySem.W.kitOne K (.ref (He.ga K y)) (.ref (He.ga K "PairError")) = some true ∧ PySem.W.kitOne K (.ref (He.ga K y)) (.type "ValueError") = some true := fun y my => by
    have h := M.kit y my
    unfold kitB at h
    simp only [Bool.and_eq_true, decide_eq_true_eq] at h
    exact h.2
  have N3 : Nm3 K mg := ⟨glo_src X G c (by decide), fun y my => (kt y my).1, fun y my => (kt y my).2⟩
  have N4 : Nm4 K mg := ⟨fr (by decide), M.sys⟩
  have N5 : Nm5 mg := ⟨fr (by decide), fr (by decide), fr (by decide), fr (by decide)⟩
  obtain ⟨d34, F34⟩ := def_law c (p := ("_law_purse", 34)) (by decide)
  obtain ⟨d35, F35⟩ := def_law c (p := ("_law_mixed", 35)) (by decide)
  obtain ⟨d36, F36⟩ := def_law c (p := ("_law_draw", 36)) (by decide)
  obtain ⟨d37, F37⟩ := def_law c (p := ("_law_purses", 37)) (by decide)
  obtain ⟨d38, F38⟩ := def_law c (p := ("_law_one_of", 38)) (by decide)
  obtain ⟨d39, F39⟩ := def_law c (p := ("_law_word", 39)) (by decide)
  obtain ⟨d40, F40⟩ := def_law c (p := ("_law_first", 40)) (by decide)
  obtain ⟨d41, F41⟩ := def_law c (p := ("_law_called", 41)) (by decide)
  obtain ⟨d42, F42⟩ := def_law c (p := ("_law_bare", 42)) (by decide)
  obtain ⟨d43, F43⟩ := def_law c (p := ("_law_code", 43)) (by decide)
  obtain ⟨d44, F44⟩ := def_law c (p := ("_law_is_error", 44)) (by decide)
  obtain ⟨d45, F45⟩ := def_law c (p := ("_law_right", 45)) (by decide)
  obtain ⟨fd, F⟩ := def_law c (p := ("law", 46)) (by decide)
  have e := hfa.symm.trans (gd (p := ("law", 46)) (by decide))
  cases e
  have b := FunD.bindsA (ps := ["_law_script"]) F fun _ _ _ _ _ _ us hl => match us, hl with | [_], _ => rfl
  refine ⟨fd, fun s v => b s [v] rfl, fun base _ _ => ?_⟩
  have E1 : ∀ x ∈ fieldNames, ErrOk P w K mg base x (He.ga K x) := err_ok X G c M
  have I1 := is_ok X G c M
  have b34 : Binds K d34 ["_law_script", "_law_at"] [] := F34.bindsN fun _ _ _ _ _ _ us hl => match us, hl with | [_, _], _ => rfl
  have b36 : Binds K d36 ["_law_purse_here", "_law_many"] [] := F36.bindsN fun _ _ _ _ _ _ us hl => match us, hl with | [_, _], _ => rfl
  have b37 : Binds K d37 ["_law_script", "_law_few"] [] := F37.bindsN fun _ _ _ _ _ _ us hl => match us, hl with | [_, _], _ => rfl
  have b38 : Binds K d38 ["_law_purse_here", "_law_some"] [] := F38.bindsN fun _ _ _ _ _ _ us hl => match us, hl with | [_, _], _ => rfl
  have b39 : Binds K d39 ["_law_purse_here"] [] := F39.bindsN fun _ _ _ _ _ _ us hl => match us, hl with | [_], _ => rfl
  have b40 : Binds K d40 ["_law_thing"] [] := F40.bindsN fun _ _ _ _ _ _ us hl => match us, hl with | [_], _ => rfl
  have b41 : Binds K d41 ["_law_thing"] [] := F41.bindsN fun _ _ _ _ _ _ us hl => match us, hl with | [_], _ => rfl
  have b42 : Binds K d42 [] [] := F42.bindsN fun _ _ _ _ _ _ us hl => match us, hl with | [], _ => rfl
  have b43 : Binds K d43 ["_law_error"] [] := F43.bindsN fun _ _ _ _ _ _ us hl => match us, hl with | [_], _ => rfl
  have b44 : Binds K d44 ["_law_error"] [] := F44.bindsN fun _ _ _ _ _ _ us hl => match us, hl with | [_], _ => rfl
  have b45 : Binds K d45 ["_law_some", "_law_noted"] [] := F45.bindsN fun _ _ _ _ _ _ us hl => match us, hl with | [_, _], _ => rfl
  have G36 := ok_draw (P := P) (w := w) (base := base) F36 N1 F35 (gd (p := ("_law_mixed", 35)) (by decide))
  have G34 := ok_purse (P := P) (w := w) (base := base) F34 N1
  have G37 := ok_purses (P := P) (w := w) (base := base) F37 N1 G34 b34 F34.kp (gd (p := ("_law_purse", 34)) (by decide))
  have G39 := ok_word (P := P) (w := w) (base := base) F39 N1 G36 b36 F36.kp (gd (p := ("_law_draw", 36)) (by decide))
  have G38 := ok_one (P := P) (w := w) (base := base) F38 N1 G36 b36 F36.kp (gd (p := ("_law_draw", 36)) (by decide))
  have G43 := ok_code (P := P) (w := w) (base := base) F43 N2 I1
  have G44 := ok_iserr (P := P) (w := w) (base := base) F44 N2 N3
  have G45 := ok_right (P := P) (w := w) (base := base) F45 N2 N4 (fun x m => ⟨_, err_c M m (src_of m)⟩) G43 b43 F43.kp (gd (p := ("_law_code", 43)) (by decide)) G44 b44 F44.kp (gd (p := ("_law_is_error", 44)) (by decide))
  exact ok_law F N2 N4 N5 ⟨G37, b37, F37.kp, gd (p := ("_law_purses", 37)) (by decide)⟩ ⟨G39, b39, F39.kp, gd (p := ("_law_word", 39)) (by decide)⟩ ⟨G38, b38, F38.kp, gd (p := ("_law_one_of", 38)) (by decide)⟩
    ⟨ok_first F40 E1, b40, F40.kp, gd (p := ("_law_first", 40)) (by decide)⟩ ⟨ok_called F41 E1, b41, F41.kp, gd (p := ("_law_called", 41)) (by decide)⟩ ⟨ok_bare F42 E1, b42, F42.kp, gd (p := ("_law_bare", 42)) (by decide)⟩
    ⟨G43, b43, F43.kp, gd (p := ("_law_code", 43)) (by decide)⟩ ⟨G44, b44, F44.kp, gd (p := ("_law_is_error", 44)) (by decide)⟩ ⟨G45, b45, F45.kp, gd (p := ("_law_right", 45)) (by decide)⟩
    (bare_ok X G c M (by decide) (by decide)) (bare_ok X G c M (by decide) (by decide)) (bare_ok X G c M (by decide) (by decide))
end Yt

set_option Elab.async false
set_option linter.all false
set_option maxRecDepth 100000
set_option maxHeartbeats 0
open PySem PySem.W PySem.Calls PyProof.Rows
theorem PySem.Challenge.cw_pairtells_k01_errors_made_holds : PySem.Challenge.rw_pairtells_k01_errors_made.Holds := by
  w_on; o_law
  refine HandSHeadRun.head_any (r := OpenLaw.row PySem.Challenge.rw_pairtells_k01_errors_made) (q := view (OpenLaw.row PySem.Challenge.rw_pairtells_k01_errors_made).prog [46]) (H := Yt.hkY) (ob := Yt.obT) (M := 10000) (loose := Yt.looseY) (d := HandSHeadRun.topDef (OpenLaw.row PySem.Challenge.rw_pairtells_k01_errors_made).prog 46) (kwd := []) Yt.obT_eq
    (by kernel_rfl) (fun s => by kernel_rfl) Yt.run (by kernel_rfl) (by kernel_rfl) (by kernel_rfl) (by rfl) (by first | assumption | decide +kernel) (by decide +kernel) ⟨rfl, rfl, rfl, rfl, rfl, by decide +kernel⟩ ?hw ?hc
  case hw => w_witness2
  case hc =>
    refine Yt.walk_ofG (l := PySem.Challenge.rw_pairtells_k01_errors_made) (n := 63) (k := 4) (x := "_law_script") rfl (by decide) (by kernel_rfl) ⟨rfl, by decide, by decide⟩ ?F
    intro w mg fa h Y G hmg0
    obtain ⟨K, KX, c, hm⟩ := Y
    have hmg : mg ("law" : PySem.Str) = some (.ref fa) := by
      have e : (HandSHeadRun.topDef (OpenLaw.row PySem.Challenge.rw_pairtells_k01_errors_made).prog 46).name = ("law" : PySem.Str) := by kernel_rfl
      rw [← e]
      exact hmg0
    obtain ⟨fd, hb, hF⟩ := Yt.facts (P := (PySem.Challenge.rw_pairtells_k01_errors_made).prog) (w := w) KX G hmg c hm
    exact ⟨K, fd, Yt.spLaw K, KX, hb, fun H a ns hl _ hS => ⟨a, ns, rfl, hS, hl, fun _ => rfl⟩, hF⟩
