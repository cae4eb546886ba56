import PyProof.Rows.All
import Wide.All
import OpenK.AllK
import Wide.FinOn
import PyProof.EqAt
import PyProof.EqKinds
import PyProof.TupleCall
import KE.KFromBytes
import KE.KIsAll
import KE.KTryMore
import HandS.ForMost
import HandS.Exc
import HandS.ExcOwn
import HandS.ExcInit
import HandS.ExcIs
import HandS.ExcField
import HandS.Defaults
import HandS.HeadEnd
import HandS.HeadHook1
import HandS.HeadHook2
import HandS.Wide
import HandS.WideBits
import HandS.DictComp
import HandS.Walk
import KE.KDictPairs
import HandS.More
import HandS.IsInst
import HandS.Zip
import HandS.Conv
import PyProof.ListStr
import HandS.Text
import HandS.TupAny
import HandS.TupSets
import HandS.SetBool
import HandS.SetKeys
import KE.SortData
import HandS.ForList
import HandS.OwnEq
import HandS.Comp
import HandS.Style
import KE.KStateDown
import HandS.Head0
import HandS.Head1
import HandS.Head2
import PySem.Challenge.RW_pairtells_k03_whole_tables_cut_chosen_tu
set_option Elab.async false
set_option linter.all false
set_option maxRecDepth 100000
set_option maxHeartbeats 2000000
namespace Yt
open PySem PySem.Spec PyProof.Rows L2
/-! ### promises that know of no guard on the way: repr may be asked -/
section
variable {P : Program} {w : World} {K : PySem.W.Frag} {mg : Str → Option Value} {base : Heap}
structure FnOkG (P : Program) (w : World) (K : PySem.W.Frag) (mg : Str → Option Value) (base : Heap) (CX : CXT) (k : Nat) (f : Addr) (fd : FuncData) (ps : List Str) (sp : Sp) : Prop where
  len : ∀ vs H Q E, sp vs H Q E → vs.length = ps.length
  run : ∀ (A : Around) (outer : List Env) (s : Shared) (H : Hp) (args : Args) (us : List Value) (vs : List V) (Q : VK) (E : XK), A.guards = some [] → Room k A → Env0 P w K mg base A outer s H → BindsTo s fd args (ps.zip us) → Vals vs us → sp vs H Q E →
    codeAny (model P w) A (.call (.ref f) args) (CR CX outer P w H s Q E) s
theorem fn_ofG {CX : CXT} {k : Nat} {f : Addr} {name qual : Str} {params : Arguments} {body : List Stmt} {scope : Scope} {dV kV doc pm cdv ct oc : Value} {an od : Option Addr}
    {osl : Array (Option Value)} {N ps : List Str} {sp : Sp} (lk : K.lookup f = some ⟨oc, od, .func (PySem.W.fnOf name qual params body scope dV kV doc pm an cdv ct), osl⟩) (hcd : PySem.W.codeIn K cdv qual = true) (S : FnScope N ps scope)
    (len : ∀ vs H Q E, sp vs H Q E → vs.length = ps.length)
    (hbody : ∀ (A : Around) (outer : List Env) (s : Shared) (H : Hp) (vs : List V) (Q : VK) (E : XK), (A.deeper (envOfC qual scope s.heap.objs.size f cdv)).guards = some [] → Room k (A.deeper (envOfC qual scope s.heap.objs.size f cdv)) → sp vs H Q E →
      ∃ t, PSs (cxOf CX P w K mg base N qual scope f cdv A outer s H E) body t ∧ t { nx := fun _ H' => Q .non H', rt := Q } (start N vs) H) :
    FnOkG P w K mg base CX (k + 1) f (PySem.W.fnOf name qual params body scope dV kV doc pm an cdv ct) ps sp := by
  refine ⟨len, fun A outer s H args us vs Q E hgd hr e0 hb r hsp => ?_⟩
  have hl := len _ _ _ _ hsp
  have KX : K.In s.heap := e0.mod.kin.keeps fun b o e => (e0.bs b o e).1
  have lim : s.heap.NoLimit := e0.mod.nolimit.keeps fun b o e => (e0.bs b o e).1
  have hkind : ∀ y ∈ ps.zip us, scope.names.lookup y.1 = some .local ∨ (scope.names.lookup y.1 = some .cell ∧ ((cellsFrom (s.heap.objs.size + 1) scope.names []).lookup y.1).isSome = true) := fun ⟨n, v⟩ hy => by
    rcases S.par n (List.of_mem_zip hy).1 with q | q
    · exact .inl q
    · exact .inr ⟨q, PySem.W.cellsFrom_some _ _ _ (.inl q)⟩
  refine codeAny_call_function hr.depth (KX _ _ lk) rfl S.co S.gen rfl (PySem.W.codeRec_of KX hcd) (hb _ _ _ _ ?_)
  refine wpAny_newFunctionEnv_cells S.kind hkind fun env he s1 x => ?_
  subst he
  refine ⟨lim.keeps x.toInCall.keep, codeAny_func ?_⟩
  obtain ⟨t, ht, hq⟩ := hbody A outer s H vs Q E hgd (hr.deeper _) hsp
  have I : Inv (cxOf CX P w K mg base N qual scope f cdv A outer s H E) [] (start N vs) H s1 := inv_start S hr.hd e0 hl r x
  refine wpAny_mono (ht.run [] s1 (start N vs) H _ I hq) (fun fl s' hs => ?_) fun e s' hs => hs
  have fin : ∀ {σ' : L2.St} {H' : Hp} {v : V} {u : Value}, Inv (cxOf CX P w K mg base N qual scope f cdv A outer s H E) [] σ' H' s' → RelV v u → Q v H' → CE outer P w H s Q u s' :=
    fun {σ' H' v u} J rv q => ⟨v, H', J.os, J.bare, J.base, J.hok, rv, q⟩
  cases fl with
  | ret u =>
    obtain ⟨v, σ', H', J, rv, q⟩ := hs
    exact fin J rv q
  | next =>
    obtain ⟨σ', H', J, q⟩ := hs
    exact fin (v := V.non) (u := Value.none) J rfl q
  | brk =>
    obtain ⟨_, _, _, q⟩ := hs
    exact False.elim q
  | cont =>
    obtain ⟨_, _, _, q⟩ := hs
    exact False.elim q
theorem okG {CX : CXT} {x qual : Str} {params : Arguments} {body : List Stmt} {scope : Scope} {dvs : List V} {kws : List (Str × V)} {f : Addr} {fd : FuncData} {N ps : List Str} {k : Nat} {sp : Sp} (F : FunD K x qual params body scope dvs kws f fd) (S : FnScope N ps scope) (len : ∀ vs H Q E, sp vs H Q E → vs.length = ps.length)
    (hbody : ∀ (cdv : Value) (A : Around) (outer : List Env) (s : Shared) (H : Hp) (vs : List V) (Q : VK) (E : XK), (A.deeper (envOfC qual scope s.heap.objs.size f cdv)).guards = some [] → Room k (A.deeper (envOfC qual scope s.heap.objs.size f cdv)) → sp vs H Q E →
      ∃ t, PSs (cxOf CX P w K mg base N qual scope f cdv A outer s H E) body t ∧ t { nx := fun _ H' => Q .non H', rt := Q } (start N vs) H) : FnOkG P w K mg base CX (k + 1) f fd ps sp := by
  obtain ⟨oc, od, dV, kV, doc, pm, an, cdv, ct, osl, rfl, lk, hcd, _, _⟩ := F.ex
  exact fn_ofG lk hcd S len fun A outer s H vs Q E hg hr hsp => hbody cdv A outer s H vs Q E hg hr hsp
end
section
variable {X : Cx} {CX : CXT} {k : Nat} {f C : Addr} {fd : FuncData} {ps : List Str} {sp : Sp} {dvs : List V} {ds : List Value} {E : XK} {x m : Str} {p pos apos : Pos} {e o : Expr} {es : List Expr} {ta : TE} {t : TA}
theorem run_fnG {pins : List (Addr × Obj)} {σ : L2.St} {H : Hp} {s : Shared} {Q : VK} {us : List Value} {vs : List V} (F : FnOkG X.prog X.w X.K X.mg X.base CX k f fd ps sp) (hgd : X.A.guards = some []) (hr : Room k X.A) (hb : Binds X.K fd ps ds) (hd : Vals dvs ds) (hx : Passes CX X E)
    (I : Inv X pins σ H s) (r : Vals vs us) (h : sp (vs ++ dvs) H Q E) : wpAny (model X.prog X.w) X.A (call (.ref f) us) (EP X pins σ Q) X.xe s := by
  have r2 : Vals (vs ++ dvs) (us ++ ds) := r.append hd
  have hl : (us ++ ds).length = ps.length := by rw [← r2.length]; exact F.len _ _ _ _ h
  refine wpAny_call (codeAny_mono (F.run X.A X.stack s H ⟨us, []⟩ (us ++ ds) (vs ++ dvs) Q E hgd hr I.env0 (hb s us I.kIn hl) r2 h) fun r s' hq => ?_)
  cases r with
  | error e => exact hx pins σ H s e s' I hq
  | ok fl =>
    cases fl with
    | ret u => exact I.after hq
    | next => exact False.elim hq
    | brk => exact False.elim hq
    | cont => exact False.elim hq
theorem pe_callG (F : FnOkG X.prog X.w X.K X.mg X.base CX k f fd ps sp) (hgd : X.A.guards = some []) (hr : Room k X.A) (hg : Gl X x) (hm : X.mg x = some (.ref f)) (hk : PySem.W.keepIn X.K (.ref f) = true) (hb : Binds X.K fd ps ds) (hd : Vals dvs ds) (hx : Passes CX X E)
    (ha : PA X (e :: es) t) (hdb : (x == ("__debug__" : Str)) = false := by decide) (he : starEach (e :: es) X.env = (false, eval e X.env) :: starEach es X.env := by rfl) (hpl : (backTo pos (starEach es X.env)).any (·.1) = false := by rfl) :
    PE X (.Call (.Name x p) (e :: es) [] pos) (tCall sp dvs E t) := by
  refine ⟨fun pins s σ H Q I h => ?_⟩
  refine wpAny_Call_Name_kw (ld_glob I hg hm ?_ hdb)
  refine PySem.W.callWith_K (h₀ := X.base) I.ok.mod.kin hk (thn (ha.run pos pins s σ H _ I h) fun us s1 ⟨vs, H1, I1, r, q⟩ => ⟨I1.kIn, ?_⟩) he hpl
  exact run_fnG F hgd hr hb hd hx I1 r q
end
/-! ### powers of great numbers -/
def CPowW (i j : Int) : Prop := 0 ≤ j ∧ (Builtin.Int.intBits i : Int) * j ≤ 2 ^ 27
theorem op_powW {X : Cx} : OpR X (binaryOp .Pow) (rI CPowW fun i j => .int (i ^ j.toNat)) := opI fun _ _ _ _ _ _ _ hc q => pow_int hc.1 hc.2 q
theorem dict_sz1 : ∀ ds : List (PyData × PyData), sizeOf (ds.map (·.1)) < 1 + sizeOf ds
  | [] => by simp
  | (k, v) :: r => by
    have := dict_sz1 r
    simp only [List.map_cons, List.cons.sizeOf_spec, Prod.mk.sizeOf_spec]
    omega
theorem dict_sz2 : ∀ ds : List (PyData × PyData), sizeOf (ds.map (·.2)) < 1 + sizeOf ds
  | [] => by simp
  | (k, v) :: r => by
    have := dict_sz2 r
    simp only [List.map_cons, List.cons.sizeOf_spec, Prod.mk.sizeOf_spec]
    omega
/-! ### data, dicts too: what repr says -/
mutual
inductive Rp (H : Hp) : V → PyData → Prop
  | non : Rp H .non .none
  | bl (b : Bool) : Rp H (.bl b) (.bool b)
  | int (i : Int) : Rp H (.int i) (.int i)
  | str (x : Str) : Rp H (.str x) (.str x)
  | lst {a : Addr} {xs : List V} {ds : List PyData} : Rd H a (.lst xs) → RpAll H xs ds → Rp H (.ref a) (.list ds)
  | tup {a : Addr} {xs : List V} {ds : List PyData} : Rd H a (.tup xs) → RpAll H xs ds → Rp H (.ref a) (.tuple ds)
  | dct {a : Addr} {kvs : List (Key × V)} {ds : List (PyData × PyData)} : H a = some (.dK kvs) → RpAll H (kvs.map fun p => kV p.1) (ds.map (·.1)) → RpAll H (kvs.map (·.2)) (ds.map (·.2)) → Rp H (.ref a) (.dict ds)
inductive RpAll (H : Hp) : List V → List PyData → Prop
  | nil : RpAll H [] []
  | cons {v : V} {vs : List V} {d : PyData} {ds : List PyData} : Rp H v d → RpAll H vs ds → RpAll H (v :: vs) (d :: ds)
end
theorem RpAll.two {H : Hp} {x y : V} {d e : PyData} (h : Rp H x d) (g : Rp H y e) : RpAll H [x, y] [d, e] := .cons h (.cons g .nil)
theorem rd_same {H H' : Hp} {a : Addr} {o : HO} (s : Same H H') (h : Rd H a o) : Rd H' a o := by
  rcases h with h | ⟨u, h⟩
  · exact .inl (s _ _ h)
  · exact .inr ⟨u, s _ _ h⟩
mutual
theorem Rp.same {H H' : Hp} (s : Same H H') : ∀ {v : V} {d : PyData}, Rp H v d → Rp H' v d
  | _, _, .non => .non
  | _, _, .bl b => .bl b
  | _, _, .int i => .int i
  | _, _, .str x => .str x
  | _, _, .lst h g => .lst (rd_same s h) (RpAll.same s g)
  | _, _, .tup h g => .tup (rd_same s h) (RpAll.same s g)
  | _, _, .dct h g k => .dct (s _ _ h) (RpAll.same s g) (RpAll.same s k)
theorem RpAll.same {H H' : Hp} (s : Same H H') : ∀ {v : List V} {d : List PyData}, RpAll H v d → RpAll H' v d
  | _, _, .nil => .nil
  | _, _, .cons h g => .cons (Rp.same s h) (RpAll.same s g)
end
theorem pairs_key {P : Program} {w : World} {kvs : List (Key × V)} {vs : List (Key × Value)} (r : KV kvs vs) : ∀ {es : List DictEntry}, Pairs (mixKind P w) es vs → Vals (kvs.map fun p => kV p.1) (es.map (·.key)) ∧ Vals (kvs.map (·.2)) (es.map (·.val)) := by
  induction r with
  | nil =>
    intro es p
    cases p
    exact ⟨.nil, .nil⟩
  | cons h t ih =>
    intro es p
    cases p with
    | cons hk hv hr =>
      obtain ⟨i1, i2⟩ := ih hr
      obtain ⟨e1, e2⟩ := h
      refine ⟨.cons ?_ i1, .cons ?_ i2⟩
      · dsimp only
        rw [mixKind_is] at hk
        rw [← e1] at hk
        rcases keyIs_shape hk with ⟨i, t, q1, q2⟩ | ⟨x, t, q1, q2⟩
        · rw [q1, q2]
          exact ⟨t, rfl⟩
        · rw [q1, q2]
          exact ⟨t, rfl⟩
      · dsimp only
        rw [hv]
        exact e2
section
variable {X : Cx} {pins : List (Addr × Obj)} {σ : L2.St} {H : Hp} {s : Shared}
theorem not_sys (I : Inv X pins σ H s) (hS : ∃ o, X.K.lookup sysModules = some o) {a : Addr} {o : HO} (h : H a = some o) : a ≠ sysModules := fun z => by
  obtain ⟨u, hu⟩ := hS
  have q := (I.bs _ _ (I.ok.mod.kin _ _ hu)).2
  rw [z, q] at h
  cases h
theorem rd_some {H : Hp} {a : Addr} {o : HO} (h : Rd H a o) : ∃ u, H a = some u := by
  rcases h with h | ⟨u, h⟩
  · exact ⟨_, h⟩
  · exact ⟨_, h⟩
mutual
theorem Rp.reads (I : Inv X pins σ H s) (hS : ∃ o, X.K.lookup sysModules = some o) : ∀ (d : PyData) (v : V) (u : Value), Rp H v d → RelV v u → ∃ as, Reads s.heap u d as ∧ sysModules ∉ as
  | .none, _, _, h, r => by
    cases h
    cases r
    exact ⟨_, Reads.none, fun z => nomatch z⟩
  | .bool b, _, _, h, r => by
    cases h
    cases r
    exact ⟨_, Reads.bool b, fun z => nomatch z⟩
  | .int i, _, _, h, r => by
    cases h
    obtain ⟨t, rfl⟩ := r
    exact ⟨_, Reads.int i t, fun z => nomatch z⟩
  | .str x, _, _, h, r => by
    cases h
    obtain ⟨t, rfl⟩ := r
    exact ⟨_, Reads.str x t, fun z => nomatch z⟩
  | .list ds, _, _, h, r => by
    cases h with
    | lst hs ha =>
      cases r
      obtain ⟨its, rv, ⟨o, n, ho, hc, _, hd⟩, _⟩ := I.list (.inl hs)
      obtain ⟨as, hr, hn⟩ := RpAll.reads I hS ds _ its ha rv
      obtain ⟨_, hz⟩ := rd_some hs
      exact ⟨_, Reads.list ho hc hd hr, fun z => (List.mem_cons.mp z).elim (fun e => not_sys I hS hz e.symm) hn⟩
  | .tuple ds, _, _, h, r => by
    cases h with
    | tup hs ha =>
      cases r
      obtain ⟨its, rv, ⟨o, ho, hc, n, hd⟩, _⟩ := I.tuple (.inl hs)
      obtain ⟨as, hr, hn⟩ := RpAll.reads I hS ds _ its ha rv
      exact ⟨_, Reads.tuple ho hc hd hr, hn⟩
  | .dict ds, _, _, h, r => by
    cases h with
    | dct hs hk hv =>
      cases r
      obtain ⟨_, hsy, vs, rkv, o, es, ep, ho, hx, hd, _, hp, _⟩ := dk_of I.hok hs
      obtain ⟨r1, r2⟩ := pairs_key rkv hp
      obtain ⟨as, h1, n1⟩ := RpAll.reads I hS (ds.map (·.1)) _ _ hk r1
      obtain ⟨bs, h2, n2⟩ := RpAll.reads I hS (ds.map (·.2)) _ _ hv r2
      refine ⟨_, Reads.dict ho hx.1 hd h1 h2, fun z => ?_⟩
      rcases List.mem_append.mp z with z | z
      · rcases List.mem_cons.mp z with z | z
        · exact not_sys I hS hs z.symm
        · exact n1 z
      · exact n2 z
  termination_by d => sizeOf d
  decreasing_by
    all_goals simp_wf
    all_goals first | omega | exact dict_sz1 _ | exact dict_sz2 _
theorem RpAll.reads (I : Inv X pins σ H s) (hS : ∃ o, X.K.lookup sysModules = some o) : ∀ (ds : List PyData) (vs : List V) (us : List Value), RpAll H vs ds → Vals vs us → ∃ as, ReadsAll s.heap us ds as ∧ sysModules ∉ as
  | [], _, _, h, r => by
    cases h
    cases r
    exact ⟨_, ReadsAll.nil, fun z => nomatch z⟩
  | d :: ds, _, _, h, r => by
    cases h with
    | cons h1 h2 =>
      cases r with
      | cons r1 r2 =>
        obtain ⟨as, q1, n1⟩ := Rp.reads I hS d _ _ h1 r1
        obtain ⟨bs, q2, n2⟩ := RpAll.reads I hS ds _ _ h2 r2
        exact ⟨_, ReadsAll.cons q1 q2, fun z => (List.mem_append.mp z).elim n1 n2⟩
  termination_by ds => sizeOf ds
  decreasing_by
    all_goals simp_wf
    all_goals omega
end
end

section
variable {X : Cx}
/-- repr of data -/
def rRepr : List V → Hp → VK → Prop := fun xs H Q => ∃ x d, xs = [x] ∧ Rp H x d ∧ d.showable = true ∧ d.shown.length ≤ sizeLine ∧ d.depth ≤ 60 ∧ Q (.str d.shown) H
theorem call_repr {k : Nat} (hr : Room k X.A) (hgd : X.A.guards = some []) (hS : ∃ o, X.K.lookup sysModules = some o) : CallR X (.builtin "repr") rRepr := by
  intro pins s σ H xs us Q I r h
  obtain ⟨x, d, rfl, hd, hs, hz, hdp, q⟩ := h
  obtain ⟨u, rfl, ru⟩ := vals1 r
  have hu := hr.units
  have done : ∀ h' u tk, (∀ b o, s.heap.get? b = some o → h'.get? b = some o) → EP X pins σ Q (.str d.shown u) { s with heap := h', toks := tk } := fun h' u tk hk => ⟨.str d.shown, H, I.kept hk, ⟨u, rfl⟩, q⟩
  have big : ∀ a, u = .ref a → wpAny (model X.prog X.w) X.A (call (.builtin "repr") [u]) (EP X pins σ Q) X.xe s := fun a e => by
    obtain ⟨as, rd, hn⟩ := Rp.reads I hS d x u hd ru
    subst e
    exact repr_of_reads' rd hs (fun _ => hn) hgd (by omega) (fun _ _ z => z) (fun h' u tk hk => done h' u tk hk) hz
  cases hd with
  | non =>
    obtain rfl : u = Value.none := ru
    have e : (PyData.none).shown = ("None" : Str) := PyData.shown_none
    rw [e] at q
    exact PySem.P.repr_of_none ⟨.str _, H, I.tok _, ⟨_, rfl⟩, q⟩
  | bl b =>
    obtain rfl : u = Value.bool b := ru
    rw [PyData.shown_bool] at q
    exact PySem.P.repr_of_bool ⟨.str _, H, I.tok _, ⟨_, rfl⟩, q⟩
  | int i =>
    obtain ⟨t, rfl⟩ := ru
    rw [PyData.shown_int] at q
    exact PySem.P.repr_of_int (by simpa [PyData.showable] using hs) ⟨.str _, H, I.tok _, ⟨_, rfl⟩, q⟩
  | str y =>
    obtain ⟨t, rfl⟩ := ru
    rw [PyData.shown_str] at q hz
    exact PySem.P.repr_of_str ⟨.str _, H, I.tok _, ⟨_, rfl⟩, q⟩ hz
  | lst _ _ => exact big _ ru
  | tup _ _ => exact big _ ru
  | dct _ _ _ => exact big _ ru
end
end Yt

set_option Elab.async false
set_option linter.all false
set_option maxRecDepth 100000
set_option maxHeartbeats 2000000
namespace PySem
namespace YtE
open PySem PySem.W PySem.Calls PyProof.Rows PySem.HandSPX
/-! ### type.__call__ on an own exception class with keywords: the keywords go to __init__ alone -/
section
variable {M : Model} {A : Around} {E : Value → Shared → Prop} {h : Heap} {g : Array GenState} {d : Drawn} {t : Nat} {os : OsState}
variable {nm q : Str} {C N : Addr} {bs bm bmB : List Value} {hdct : Bool} {sn : List Str} {sub : List Value} {ab : Bool} {col : Option Bool} {dd : Option Addr} {k0 k1 k2 k3 k5 : Option Value} {B newId initId : String}
theorem check_new_ownK (F : ExcBaseFacts B newId initId bmB) (hT : ∀ X : String, bm.contains (.type X) = bmB.contains (.type X)) {rest : List Value} {kw : List (Str × Value)} {Q : Unit → Shared → Prop}
    (hC : h.get? C = some (excClassObj nm q C N bs bm hdct sn sub ab col dd k0 k1 k2 k3 k5 newId)) (hq : Q () ⟨h, g, d, t, os⟩) : wpAny M A (checkBuiltinCall newId ⟨.ref C :: rest, kw⟩) Q E ⟨h, g, d, t, os⟩ := by
  have hcont : (Value.ref C :: bm).contains (.type B) = true := by rw [List.contains_cons, hT, F.hasB, Bool.or_true]
  have hstar := F.noStar
  simp only [checkBuiltinCall, F.newKind, F.newSplit, F.newRow]
  repeat (first | refine wpAny_loadPart_at hC ?_ | (refine wpAny_isSubtype_exc hC ?_; rw [hcont]) | refine wpAny_staticBase_exc hC ?_ | refine wpAny_madeBy_exc hC ?_ | simp only [bne_self_eq_false, Bool.false_eq_true, if_false] | wp_step)
  exact hq
end
section
variable {prog : Program} {w : World} {A : Around} {E : Value → Shared → Prop} {R : Result → Shared → Prop} {h : Heap} {g : Array GenState} {d : Drawn} {t : Nat} {os : OsState}
variable {nm q : Str} {C N : Addr} {bs bm bmB : List Value} {hdct : Bool} {sn : List Str} {sub : List Value} {ab : Bool} {col : Option Bool} {dd : Option Addr} {k0 k1 k2 k3 k5 : Option Value} {B newId initId : String}
theorem new_ownK (F : ExcBaseFacts B newId initId bmB) (hT : ∀ X : String, bm.contains (.type X) = bmB.contains (.type X)) {rest : List Value} {kw : List (Str × Value)}
    (hC : h.get? C = some (excClassObj nm q C N bs bm hdct sn sub ab col dd k0 k1 k2 k3 k5 newId))
    (hq : R (.ok (.ret (.ref (h.objs.size + 1)))) ⟨(h.push { cls := .type "tuple", data := .seq rest.toArray }).push
      { cls := .ref C, data := .fields #[.ref h.objs.size, .none, .none, .none, .bool false, .none] }, g, d, t, os⟩) (hrest : rest.length ≤ sizeLine) :
    codeAny (model prog w) A (.builtin newId ⟨.ref C :: rest, kw⟩) R ⟨h, g, d, t, os⟩ := by
  have hends := F.ends
  have hcB : (Value.ref C :: bm).contains (.type B) = true := by rw [List.contains_cons, hT, F.hasB, Bool.or_true]
  have hcA : (Value.ref C :: bm).contains (.type "AttributeError") = false := by rw [List.contains_cons, hT, F.noAttr]; rfl
  have hcN : (Value.ref C :: bm).contains (.type "NameError") = false := by rw [List.contains_cons, hT, F.noName]; rfl
  refine codeAny_builtinAt F.entry ?_
  unfold Builtin.«BaseException.__new__»
  refine PySem.wpAt_bind ?_
  show PySem.wpAt _ _ _ (stack >>= _) _ _ _
  refine PySem.wpAt_bind (PySem.wpAt_stack fun p below => PySem.wpAt_of_wpAny ?_)
  wp_walk
  refine PySem.wpAt_of_wpAny ?_
  rw [F.owner]
  repeat (first | with_reducible refine wpAny_madeHere_exc F.canon hC ?_ | with_reducible refine wpAny_loadPart_at hC ?_ | (with_reducible refine wpAny_isSubtype_exc hC ?_; first | rw [hcB] | rw [hcA] | rw [hcN]) | wp_step)
  show R _ _
  rw [Heap.size_push]
  exact hq
theorem type_call_ownK (F : ExcBaseFacts B newId initId bmB) (hT : ∀ X : String, bm.contains (.type X) = bmB.contains (.type X)) {rest : List Value} {kw : List (Str × Value)} {fI : Addr} {Q : Fin → Shared → Prop}
    (hC : h.get? C = some (excClassObj nm q C N bs bm hdct sn sub ab col dd k0 k1 k2 k3 k5 newId))
    (hi : W.Looks (model prog w) h (typeLookup (.ref C) "__init__") (some (.ref fI))) (hb : ∀ self, W.Looks (model prog w) h (bindSpecial (.ref fI) self) (.ref fI, [self])) (hrest : rest.length ≤ sizeLine)
    (hq : codeAny (model prog w) A (.call (.ref fI) ⟨.ref (h.objs.size + 1) :: rest, kw⟩)
      (fun r s' => match r with | .ok (.ret v) => v = .none ∧ Q (.done (.ret (.ref (h.objs.size + 1)))) s' | .ok _ => False | .error e => E e s')
      ⟨(h.push (W.kdv_tup rest)).push (HandSPX.excO C h.objs.size), g, d, t, os⟩) :
    wpAny (model prog w) A (Builtin.«type.__call__» ⟨.ref C :: rest, kw⟩) Q E ⟨h, g, d, t, os⟩ := by
  repeat (first | with_reducible refine wpAny_loadPart_at hC ?_ | with_reducible refine wpAny_madeBy_exc hC ?_ | wp_step)
  refine codeAny_call_builtin_code (Code.quiet_builtin _ F.quiet) (check_new_ownK F hT hC ?_)
  refine new_ownK F hT hC ?_ hrest
  show wpAny _ _ _ _ _ _
  have k : ∀ b o, h.get? b = some o → ((h.push (W.kdv_tup rest)).push (HandSPX.excO C h.objs.size)).get? b = some o := fun b o e => Heap.get?_push_of_some _ (Heap.get?_push_of_some _ e)
  have hC₁ := k _ _ hC
  have hget : ((h.push (W.kdv_tup rest)).push (HandSPX.excO C h.objs.size)).get? (h.objs.size + 1) = some (HandSPX.excO C h.objs.size) := by heap_get
  have hcC : (Value.ref C :: bm).contains (.ref C) = true := by simp
  have i1 := hi.keeps k
  have b1 := (hb (.ref (h.objs.size + 1))).keeps k
  unfold isInstance
  repeat (first | with_reducible refine wpAny_loadPart_at hget ?_ | (with_reducible refine wpAny_isSubtype_exc hC₁ ?_; rw [hcC]) | wp_step)
  show wpAny _ _ (typeLookup (.ref C) _) _ _ _
  refine i1.at ?_
  refine wpAny_holding (wpAny_bind (b1.at ?_))
  refine wpAny_bind (wpAny_call (codeAny_mono hq fun r s' z => ?_))
  rcases r with e | (v | _ | _ | _) <;> first | exact z | exact z.elim | skip
  obtain ⟨rfl, z⟩ := z
  first
    | exact wpAny_pure (wpAny_pure z)
    | (wp_walk; exact z)
theorem call_ownK (F : ExcBaseFacts B newId initId bmB) (hT : ∀ X : String, bm.contains (.type X) = bmB.contains (.type X)) {rest : List Value} {kw : List (Str × Value)} {fI : Addr}
    (hC : h.get? C = some (excClassObj nm q C N bs bm hdct sn sub ab col dd k0 k1 k2 k3 k5 newId))
    (hi : W.Looks (model prog w) h (typeLookup (.ref C) "__init__") (some (.ref fI))) (hb : ∀ self, W.Looks (model prog w) h (bindSpecial (.ref fI) self) (.ref fI, [self])) (hrest : rest.length ≤ sizeLine)
    (hq : codeAny (model prog w) (A.under (.builtin "type.__call__" ⟨.ref C :: rest, kw⟩)) (.call (.ref fI) ⟨.ref (h.objs.size + 1) :: rest, kw⟩) (W.InitBack (h.objs.size + 1) R)
      ⟨(h.push (W.kdv_tup rest)).push (HandSPX.excO C h.objs.size), g, d, t, os⟩) :
    codeAny (model prog w) A (.call (.ref C) ⟨rest, kw⟩) R ⟨h, g, d, t, os⟩ := by
  have f1 := tc_lookup
  have f2 := tc_bind (.ref C)
  have hTy : (⟨h, g, d, t, os⟩ : Shared).TypeIs (.ref C) "type" := ⟨_, hC, rfl⟩
  refine codeAny_of_tree ?_
  show wpAny _ _ (callAny (.ref C) _) _ _ _
  repeat (any_goals (first | assumption | with_reducible refine wpAny_loadPart_at hC ?_ | wp_step))
  refine ⟨rfl, ?_⟩
  refine codeAny_call_builtin_at (Code.quiet_builtin _ (by decide +kernel)) entry_typeCall (wpAny_check_type_call_sub hC (type_call_ownK F hT hC hi hb hrest ?_))
  refine codeAny_mono hq fun r s' z => ?_
  rcases r with e | (v | _ | _ | _) <;> exact z
end
end YtE
end PySem

set_option Elab.async false
set_option linter.all false
set_option maxRecDepth 100000
set_option maxHeartbeats 2000000
namespace Yt
open PySem PySem.Spec PyProof.Rows L2
/-- at e an error of the class at C, its field value holds v -/
def ErrAt (H : Hp) (e C : Addr) (v : V) : Prop := ∃ d, H e = some (exo e C (some d)) ∧ H d = some (exd d [(("value" : Str), v)])
theorem ErrAt.same {H H' : Hp} {e C : Addr} {v : V} (s : Same H H') (h : ErrAt H e C v) : ErrAt H' e C v := by
  obtain ⟨d, h1, h2⟩ := h
  exact ⟨d, s _ _ h1, s _ _ h2⟩
/-- what the written part says of such a class, its __init__ at fI -/
structure ErrC (K : PySem.W.Frag) (C fI : Addr) : Prop where
  oex : OexC K C
  iC : PySem.W.findIn K (.ref C) "__init__" = some (some (.ref fI))
  tI : PySem.W.typeIn K (.ref fI) = some (.type "function")
  no : PySem.W.findIn K (.ref C) "value" = some none
  ec : ExcC K C
/-- __init__(self, value): self.value = value -/
def spErr (K : PySem.W.Frag) : Sp := fun vs H Q _ => ∃ (a C : Addr) (v : V), vs = [.ref a, v] ∧ H a = some (exo a C none) ∧ OexC K C ∧ PySem.W.findIn K (.ref C) "value" = some none ∧
  ∀ dx, H dx = none → dx ≠ a → Q .non (upd (upd H dx (exd dx [(("value" : Str), v)])) a (exo a C (some dx)))
section
variable {X : Cx} {pins : List (Addr × Obj)} {σ : L2.St} {H : Hp} {s : Shared} {C fI : Addr} {fd : FuncData} {k : Nat}
theorem run_err {Q : VK} {us : List Value} {kw : List (Str × Value)} {v : V} {v' : Value} (T : ErrC X.K C fI) (F1 : FnOk X.prog X.w X.K X.mg X.base CX0 k fI fd ["self", "value"] (spErr X.K)) (hr : Room (k + 1) X.A) (I : Inv X pins σ H s) (rv : RelV v v') (hus : us.length ≤ sizeLine)
    (hb : ∀ (s : Shared) (self : Value), X.K.In s.heap → BindsTo s fd ⟨self :: us, kw⟩ ((["self", "value"] : List Str).zip [self, v']))
    (q : ∀ e H2, H e = none → Same H H2 → ErrAt H2 e C v → Q (.ref e) H2) :
    wpAny (model X.prog X.w) X.A (call (.ref C) us kw) (EP X pins σ Q) X.xe s := by
  obtain ⟨nm, qn, N, bs, bm, sn, sub, ab, col, dd, k0, k1, k2, k3, k5, hC, hbm⟩ := T.oex.cls
  obtain ⟨hp, g, dr, tk, os⟩ := s
  have hsz : hp.objs.size ≤ hp.objs.size + 1 := Nat.le_succ _
  have hn : H (hp.objs.size + 1) = none := I.hok.fresh hsz
  have kk : ∀ b o, hp.get? b = some o → ((hp.push (PySem.W.kdv_tup us)).push (PySem.HandSPX.excO C hp.objs.size)).get? b = some o := fun b o e => Heap.get?_push_of_some _ (Heap.get?_push_of_some _ e)
  have hget : ((hp.push (PySem.W.kdv_tup us)).push (PySem.HandSPX.excO C hp.objs.size)).get? (hp.objs.size + 1) = some (PySem.HandSPX.excO C hp.objs.size) := by heap_get
  have I2 : Inv X pins σ (upd H (hp.objs.size + 1) (exo (hp.objs.size + 1) C none)) ⟨(hp.push (PySem.W.kdv_tup us)).push (PySem.HandSPX.excO C hp.objs.size), g, dr, tk, os⟩ :=
    I.laid (t' := tk) (a := hp.objs.size + 1) (o := exo (hp.objs.size + 1) C none) (h' := (hp.push (PySem.W.kdv_tup us)).push (PySem.HandSPX.excO C hp.objs.size)) kk hsz (exo_ok hget)
  have r2 : Vals [V.ref (hp.objs.size + 1), v] [Value.ref (hp.objs.size + 1), v'] := .cons rfl (.cons rv .nil)
  have hq : spErr X.K [V.ref (hp.objs.size + 1), v] (upd H (hp.objs.size + 1) (exo (hp.objs.size + 1) C none))
      (fun u H2 => u = .non ∧ Q (.ref (hp.objs.size + 1)) H2) (fun _ _ _ => False) := by
    refine ⟨_, C, v, rfl, upd_same, T.oex, T.no, fun dx hd ne => ⟨rfl, ?_⟩⟩
    have hd' : H dx = none := by
      rw [upd_ne ne] at hd
      exact hd
    refine q _ _ hn (fun b o z => ?_) ⟨dx, upd_same, ?_⟩
    · rw [upd_ne (ne_of_none z hn), upd_ne (ne_of_none z hd'), upd_ne (ne_of_none z hn)]
      exact z
    · rw [upd_ne ne, upd_same]
  refine wpAny_call (PySem.YtE.call_ownK F.excBase_ValueError (fun Y => PySem.HandSPX.refsVE_contains Y bm hbm) (I.kIn _ _ hC) (PySem.W.looks_findIn I.kIn T.iC) (fun self => PySem.W.bind_fn I.kIn self T.tI) hus
    (codeAny_mono (F1.run _ X.stack _ _ ⟨Value.ref (hp.objs.size + 1) :: us, kw⟩ [Value.ref (hp.objs.size + 1), v'] _ _ (fun _ _ _ => False) (hr.make C us kw) (I2.env0.make C us kw) (hb _ _ I2.kIn) r2 hq) fun r s' hq' => ?_))
  cases r with
  | error er => exact pass0 (X := X) pins σ _ _ er s' I2 hq'
  | ok fl =>
    cases fl with
    | ret u =>
      obtain ⟨w, H', I3, rw', ew, q3⟩ := I2.after hq'
      subst ew
      exact ⟨rw', ⟨V.ref (hp.objs.size + 1), H', I3, rfl, q3⟩⟩
    | next => exact False.elim hq'
    | brk => exact False.elim hq'
    | cont => exact False.elim hq'
end
/-- C(e) as a value -/
def tErr (C : Addr) (te : TE) : TE := fun σ H Q => te σ H fun v H1 => ∀ e H2, H1 e = none → Same H1 H2 → ErrAt H2 e C v → Q (.ref e) H2
/-- C() -/
def tErr0 (C : Addr) : TE := fun _ H Q => ∀ e H2, H e = none → Same H H2 → ErrAt H2 e C .non → Q (.ref e) H2
section
variable {X : Cx} {C fI : Addr} {fd : FuncData} {k : Nat} {x : Str} {p pos kpos : Pos} {e : Expr} {te : TE} {ds : List Value}
/-- how the class's __init__ binds: given, by name, left out -/
structure ErrB (K : PySem.W.Frag) (fd : FuncData) : Prop where
  pos : ∀ (s : Shared) (self u : Value), K.In s.heap → BindsTo s fd ⟨[self, u], []⟩ ((["self", "value"] : List Str).zip [self, u])
  kwd : ∀ (s : Shared) (self u : Value), K.In s.heap → BindsTo s fd ⟨[self], [("value", u)]⟩ ((["self", "value"] : List Str).zip [self, u])
  out : ∀ (s : Shared) (self : Value), K.In s.heap → BindsTo s fd ⟨[self], []⟩ ((["self", "value"] : List Str).zip [self, .none])
theorem pe_err (T : ErrC X.K C fI) (F1 : FnOk X.prog X.w X.K X.mg X.base CX0 k fI fd ["self", "value"] (spErr X.K)) (hr : Room (k + 1) X.A) (hb : ErrB X.K fd) (hg : Gl X x) (hm : X.mg x = some (.ref C)) (he : PE X e te)
    (hs : starEach [e] X.env = (false, eval e X.env) :: starEach [] X.env := by rfl) (hdb : (x == ("__debug__" : Str)) = false := by decide) :
    PE X (.Call (.Name x p) [e] [] pos) (tErr C te) := by
  refine ⟨fun pins s σ H Q I h => ?_⟩
  refine wpAny_Call_Name_kw (ld_glob I hg hm ?_ hdb)
  refine PySem.W.callWith_K (h₀ := X.base) I.ok.mod.kin T.oex.kC ?_ hs (by rfl)
  rw [hs]
  show wpAny _ _ (spliced ((false, eval e X.env) :: backTo pos (starEach [] X.env))) _ _ s
  refine Calls.spliced_cons (thn (he.run pins s σ H _ I h) fun u s1 ⟨v, H1, I1, r1, q1⟩ => ?_)
  refine Calls.spliced_nil ⟨I1.kIn, ?_⟩
  show wpAny _ _ (call (.ref C) [u]) _ _ _
  exact run_err T F1 hr I1 r1 (by show 1 ≤ sizeLine; rw [sizeLine_eq]; omega) (fun s self X => hb.pos s self u X) q1
theorem pe_err0 (T : ErrC X.K C fI) (F1 : FnOk X.prog X.w X.K X.mg X.base CX0 k fI fd ["self", "value"] (spErr X.K)) (hr : Room (k + 1) X.A) (hb : ErrB X.K fd) (hg : Gl X x) (hm : X.mg x = some (.ref C))
    (hdb : (x == ("__debug__" : Str)) = false := by decide) : PE X (.Call (.Name x p) [] [] pos) (tErr0 C) := by
  refine ⟨fun pins s σ H Q I h => ?_⟩
  refine wpAny_Call_Name_kw (ld_glob I hg hm ?_ hdb)
  exact PySem.W.callWith_K0 I.kIn T.oex.kC (run_err (us := []) (v := .non) (v' := .none) T F1 hr I rfl (by show 0 ≤ sizeLine; omega) (fun s self X => hb.out s self X) h)
theorem pe_errK (T : ErrC X.K C fI) (F1 : FnOk X.prog X.w X.K X.mg X.base CX0 k fI fd ["self", "value"] (spErr X.K)) (hr : Room (k + 1) X.A) (hb : ErrB X.K fd) (hg : Gl X x) (hm : X.mg x = some (.ref C)) (he : PE X e te)
    (hdb : (x == ("__debug__" : Str)) = false := by decide) : PE X (.Call (.Name x p) [] [⟨some "value", e, kpos⟩] pos) (tErr C te) := by
  refine ⟨fun pins s σ H Q I h => ?_⟩
  refine wpAny_Call_Name_kw (ld_glob I hg hm ?_ hdb)
  refine PySem.W.callWith_KW0 (h₀ := X.base) I.ok.mod.kin T.oex.kC (by rfl) ?_ (by rfl)
  show wpAny _ _ (evalAll ((do let v ← eval e X.env; standAt pos; pure v) :: [])) _ _ s
  refine wpAny_evalAll_cons (wpAny_bind (thn (he.run pins s σ H _ I h) fun u s1 ⟨v, H1, I1, r1, q1⟩ => wpAny_bind (wpAny_standAt (wpAny_pure ?_))))
  refine wpAny_evalAll_nil ⟨I1.kIn, ?_⟩
  show wpAny _ _ (call (.ref C) [] [("value", u)]) _ _ _
  exact run_err T F1 hr I1 r1 (by show 0 ≤ sizeLine; omega) (fun s self X => hb.kwd s self u X) q1
end
/-- e.value -/
def tVal (K : PySem.W.Frag) (te : TE) : TE := fun σ H Q => te σ H fun x H1 => ∃ (a C fI : Addr) (v : V), x = .ref a ∧ ErrC K C fI ∧ ErrAt H1 a C v ∧ Q v H1
theorem pe_val {X : Cx} {e : Expr} {te : TE} {pos : Pos} (he : PE X e te) (hb : attributeBase e "value" X.env (eval e X.env) = eval e X.env := by rfl) : PE X (.Attribute e "value" pos) (tVal X.K te) := by
  refine ⟨fun pins s σ H Q I h => ?_⟩
  refine attr_of hb (thn (he.run pins s σ H _ I h) fun u s1 hh => ?_)
  obtain ⟨x, H1, I1, rx, a, C, fI, v, ex, T, ⟨dd, ea, ed⟩, q⟩ := hh
  subst ex
  obtain rfl : u = Value.ref a := rx
  obtain ⟨t1, ha⟩ := exo_at I1.hok ea
  obtain ⟨mA, hns, hr⟩ := exd_at I1.hok ed
  obtain ⟨od, ho, hl⟩ := lookIn_ns hns
  obtain ⟨u, hu, ru⟩ := RelO.some_of (v := v) (o := mA "value") (by
    have z := hr "value"
    have e : List.lookup ("value" : Str) [(("value" : Str), v)] = some v := by simp [List.lookup]
    rw [e] at z
    exact z)
  have J : PySem.W.InstAt s1.heap a _ C (some od) := ⟨ha, rfl, rfl, ho⟩
  exact HandSPX.exc_get I1.kIn J T.ec.hg T.ec.hk T.ec.hs (PySem.W.findObj_own T.ec.hd T.no rfl (by rw [hl, hu])) (handed_of ru) ⟨v, H1, I1.tok _, ru, q⟩
end Yt

set_option Elab.async false
set_option linter.all false
set_option maxRecDepth 100000
set_option maxHeartbeats 4000000
namespace PySem.YtE
open PySem PySem.Spec PySem.Calls PyProof.Rows PySem.W
section
variable {prog : Program} {w : World} {A : Around} {E : Value → Shared → Prop} {s : Shared} {K : Frag} {x D : Addr} {ox : Obj} {od : Option Obj}
theorem findData {C : Addr} {name : Str} {a g : Value} (hc : (clsIn K C).isSome = true) (ha : findIn K (.ref C) name = some (some a)) (hg : specialIn K a "__get__" = some (some g)) (ht : takesIn K a = some true) : findObj K C od name = some (.bind g a) := by
  obtain ⟨cd, hc⟩ := Option.isSome_iff_exists.mp hc
  unfold findObj
  rw [hc, Option.bind_some, ha, Option.bind_some]
  simp [hg, ht]
theorem class_of {Q : Option Value → Shared → Prop} (T : L2.ExcC K D) (X : K.In s.heap) (I : InstAt s.heap x ox D od) (h : Q (some (.ref D)) { s with toks := s.toks + 1 }) : wpAny (model prog w) A (getAttr? (.ref x) "__class__") Q E s := by
  have hf : findObj K D od "__class__" = some (.bind (.builtin "getset_descriptor.__get__") (.builtin "object.__class__")) := findData (by obtain ⟨cd, hc, _⟩ := any_some T.hd; rw [hc]; rfl) T.ha T.hn T.ht
  obtain ⟨hp, g, d, t, os⟩ := s
  have L0 := I.type (M := model prog w)
  have L1 := looks_findIn (M := model prog w) X T.hg
  have L2 := looks_findIn (M := model prog w) X T.hk
  have L3 := looks_find (M := model prog w) X I hf
  have sub : Looks (model prog w) hp (isInstance (.ref x) (.type "BaseException")) true := L0.andThen (looks_subIn X T.hs)
  have hx0 : (false && onTheHeap (Value.builtin "BaseException.__getattribute__")) = false := rfl
  have hx2 : (Value.builtin "BaseException.__getattribute__" == Value.builtin "object.__getattribute__") = false := by decide +kernel
  have hx1 : (onTheHeap (Value.ref D) && Value.builtin "BaseException.__getattribute__" == Value.builtin "object.__getattribute__") = false := by rw [hx2]; rfl
  unfold getAttr? getAttrBy? getAttrBy
  refine wpAny_bind (wpAny_mkText (wpAny_bind (wpAny_attempt (wpAny_holding (wpAny_bind (L0.at (wpAny_bind (L1.at ?_))))))))
  show wpAny _ _ (if (onTheHeap (Value.ref D) && Value.builtin "BaseException.__getattribute__" == Value.builtin "object.__getattribute__") = true then _ else _) _ _ _
  rw [hx1, if_neg Bool.false_ne_true]
  unfold getAttrByItsOwn hookBefore
  refine wpAny_bind ?_
  rw [if_pos (show onTheHeap (Value.ref D) = true from rfl)]
  refine L2.at ?_
  refine wpAny_bind (wpAny_attempt (wpAny_holding ?_))
  unfold callGetattribute
  rw [hx0, if_neg Bool.false_ne_true]
  unfold boundAndCalled
  rw [PySem.F.excAttr_ValueError.ga.bind (.ref x)]
  refine wpAny_bind (wpAny_pure ?_)
  show wpAny _ _ (call (.builtin "BaseException.__getattribute__") [.ref x, .str "__class__" t]) _ _ _
  refine wpAny_call (codeAny_call_builtin PySem.F.excAttr_ValueError.ga.plain PySem.F.entry_bexc_ga ?_)
  refine @check_slot (model prog w) _ _ ⟨hp, g, d, t + 1, os⟩ "BaseException.__getattribute__" "BaseException" "__getattribute__" (.ref x) [.str "__class__" t] [] _ (by decide +kernel) (by decide +kernel) sub (PySem.F.args_bexc_ga (.ref x) (.str "__class__" t)) ?_
  unfold Builtin.«object.__getattribute__»
  refine wpAny_bind (wpAny_of_eq (a := ((Value.ref x : Value), [Value.str "__class__" t])) (by first | rfl | (simp only [slotArgs]; rfl)) ?_)
  refine wpAny_bind (wpAny_pure (wpAny_bind (L0.at (wpAny_bind (L3.at ?_)))))
  show wpAny _ _ (holding [Value.builtin "object.__class__"] (call (.builtin "getset_descriptor.__get__") [.builtin "object.__class__", .ref x, .ref D]) >>= ret) _ _ _
  refine wpAny_bind (wpAny_holding (wpAny_call (class_get (s := ⟨hp, g, d, t + 1, os⟩) (ox := ox) (od := od) X I T.hm ?_)))
  refine wpAny_pure ?_
  show wpAny _ _ (handedOut (.ref D)) _ _ _
  rw [handedOut_of (v := .ref D) rfl]
  first
    | exact wpAny_pure (wpAny_pure h)
    | exact wpAny_pure h
    | exact wpAny_pure (wpAny_bind (wpAny_pure (wpAny_pure h)))
theorem kit_err (T : L2.ExcC K D) : KitX K (.ref x) (.ref D) (fun h => ∃ ox od, InstAt h x ox D od) where
  ty := fun _ _ _ ⟨_, _, I⟩ => I.type
  it := fun _ _ X _ => by
    obtain ⟨cdD, hcD, _⟩ := any_some T.hd
    unfold clsIn at hcD
    split at hcD
    · rename_i c' d' cd' sl' ho
      intro A' Q' E' s' k q
      unfold isType loadHead
      exact wpAny_bind (wpAny_loadPart (k _ _ (X _ _ ho)) (wpAny_pure q))
    · cases hcD
  ne := fun h tp dd its n sl X htp => by
    obtain ⟨cdD, hcD, _⟩ := any_some T.hd
    refine Bool.eq_false_iff.mpr fun q => ?_
    have e : D = tp := Value.ref.inj (beq_iff_eq.mp q)
    subst e
    unfold clsIn at hcD
    split at hcD
    · rename_i c' d' cd' sl' ho
      have z := (X _ _ ho).symm.trans htp
      cases z
    · cases hcD
  ca := fun X ⟨_, _, I⟩ k => class_of T X I k
end
end PySem.YtE
namespace Yt
open PySem PySem.Spec PyProof.Rows L2
/-- at a an instance of the error class at C: with its field or without one -/
def ErrIs (H : Hp) (a C : Addr) : Prop := (∃ v, ErrAt H a C v) ∨ H a = some (exo a C none)
theorem ErrAt.is {H : Hp} {a C : Addr} {v : V} (h : ErrAt H a C v) : ErrIs H a C := .inl ⟨v, h⟩
theorem ErrIs.inst {X : Cx} {pins : List (Addr × Obj)} {σ : L2.St} {H : Hp} {s : Shared} {a C : Addr} (I : Inv X pins σ H s) (h : ErrIs H a C) : ∃ ox od, PySem.W.InstAt s.heap a ox C od := by
  rcases h with ⟨v, dd, ea, ed⟩ | ea
  · obtain ⟨t1, ha⟩ := exo_at I.hok ea
    obtain ⟨mA, hns, hr⟩ := exd_at I.hok ed
    obtain ⟨od, ho, hl⟩ := lookIn_ns hns
    exact ⟨_, some od, ha, rfl, rfl, ho⟩
  · obtain ⟨t1, ha⟩ := exo_at I.hok ea
    exact ⟨_, none, ha, rfl, rfl, trivial⟩
/-- isinstance(e, c), e an error of an own class -/
def rIsI (K : PySem.W.Frag) : List V → Hp → VK → Prop := fun xs H Q => ∃ (a D : Addr) (c : V) (cv : Value) (b : Bool), xs = [.ref a, c] ∧ ErrIs H a D ∧ ExcC K D ∧ (∀ u, RelV c u → u = cv) ∧ PySem.W.kitOne K (.ref D) cv = some b ∧ Q (.bl b) H
theorem call_isErr {X : Cx} : CallR X (.builtin "isinstance") (rIsI X.K) := by
  intro pins s σ H xs us Q I r h
  obtain ⟨a, D, c, cv, b, rfl, hE, C, hcv, e, q⟩ := h
  obtain ⟨u, w, rfl, ru, rw'⟩ := vals2 r
  obtain rfl : u = Value.ref a := ru
  have ec := hcv _ rw'
  subst ec
  exact PySem.W.kia_one (PySem.YtE.kit_err C) I.kIn (hE.inst I) e (fun z => nomatch z) fun tk => ⟨.bl b, H, I.kept (t' := tk) fun _ _ z => z, rfl, q⟩
end Yt

set_option Elab.async false
set_option linter.all false
set_option maxRecDepth 100000
set_option maxHeartbeats 2000000
namespace Yt
open PySem PySem.Spec PyProof.Rows L2
def top (i : Nat) : Stmt := PySem.Challenge.pw_pairtells_k03_whole_tables_cut_chosen_tu.main.body.getD i (.Pass ⟨0, 0, 0, 0⟩)
abbrev sPurse : Stmt := top 34
abbrev sMixed : Stmt := top 35
abbrev sDraw : Stmt := top 36
abbrev sPurses : Stmt := top 37
abbrev sOne : Stmt := top 38
abbrev sWord : Stmt := top 41
abbrev FnP (K : PySem.W.Frag) (x : Str) (st : Stmt) (f : Addr) (fd : FuncData) : Prop := FunD K x x (defArgs st) (defBody st) (defScope st) [] [] f fd
/-- the names that the module leaves to Python -/
structure Nm (mg : Str → Option Value) : Prop where
  int : mg "int" = none
  sum : mg "sum" = none
  max : mg "max" = none
  min : mg "min" = none
  range : mg "range" = none
  len : mg "len" = none
/-- the law's purse at p: it may be drawn from f times more -/
def PurseAt (H : Hp) (p : Addr) (f : Nat) : Prop := ∃ x y c t : Int, H p = some (.lst [.int x, .int y, .int c, .int t]) ∧ 0 ≤ x ∧ (0 ≤ y ∧ y < 2147483648) ∧ (0 ≤ c ∧ c + f ≤ 1099511627776) ∧ (0 ≤ t ∧ t ≤ 63)
theorem PurseAt.less {H : Hp} {p : Addr} {f g : Nat} (h : PurseAt H p f) (l : g ≤ f) : PurseAt H p g := by
  obtain ⟨x, y, c, t, e, h1, h2, h3, h4⟩ := h
  exact ⟨x, y, c, t, e, h1, h2, ⟨h3.1, by omega⟩, h4⟩
def spMixed : Sp := fun vs H Q _ => ∃ y c t : Int, vs = [.int y, .int c, .int t] ∧ (0 ≤ y ∧ y < 2147483648) ∧ (0 ≤ c ∧ c ≤ 1099511627776) ∧ (0 ≤ t ∧ t ≤ 63) ∧ ∀ r : Int, 0 ≤ r → r < 2147483587 → Q (.int r) H
section
variable {P : Program} {w : World} {K : PySem.W.Frag} {mg : Str → Option Value} {base : Heap} {f fM : Addr} {fd fdM : FuncData}
theorem scMixed : FnScope ["_law_seed", "_law_spin", "_law_at", "_law_mixed_here"] ["_law_seed", "_law_spin", "_law_at"] (defScope sMixed) := ⟨rfl, rfl, rfl, by decide +kernel, rfl, by decide +kernel, by decide +kernel⟩
theorem ok_mixed (F : FnP K "_law_mixed" sMixed f fd) (T : Nm mg) : FnOk P w K mg base CX0 1 f fd ["_law_seed", "_law_spin", "_law_at"] spMixed := by
  refine F.ok scMixed (fun vs H Q E h => ?_) (fun cdv A outer s H vs Q E hr h => ?_)
  · obtain ⟨y, c, t, rfl, _⟩ := h
    rfl
  · obtain ⟨y, c, t, rfl, hy, hc, ht, k⟩ := h
    refine ⟨_, PSs.nox (pss_cons (ps_set (i := 3) scMixed.nd rfl (Or.inl rfl) (pe_op op_add (pe_op op_mul (pv 0) pe_int) (pe_op op_mul (pe_op op_mul pe_int (pv 1)) (pv 1))))
      (pss_cons (ps_set (i := 3) scMixed.nd rfl (Or.inl rfl) (pe_op op_mod (pe_callTy call_int1 (by rfl) T.int (by decide +kernel) (pa_cons (pe_op op_add (pe_op op_add (pv 3) (pe_op op_mul pe_int (pv 2))) (pv 1)) pa_nil)) pe_int))
      (pss_cons (ps_set (i := 3) scMixed.nd rfl (Or.inl rfl) (pe_op op_mod (pe_callTy call_int1 (by rfl) T.int (by decide +kernel) (pa_cons (pe_op op_add (pe_op op_mul (pv 3) (pv 3)) pe_int) pa_nil)) pe_int))
      (pss_one (ps_ret (pe_op op_mod (pe_callTy call_int1 (by rfl) T.int (by decide +kernel) (pa_cons (pe_op op_mul (pv 3) pe_int) pa_nil)) pe_int)))))), ?_⟩
    refine ⟨_, rfl, _, _, rfl, rfl, .inl ⟨by omega, by omega⟩, _, rfl, _, _, rfl, rfl, .inr ⟨by omega, by omega⟩, _, rfl, _, _, rfl, rfl, .inr ⟨by omega, by omega⟩, _, _, rfl, rfl, ?_⟩
    refine ⟨_, rfl, _, rfl, _, _, rfl, rfl, .inl ⟨by omega, by omega⟩, _, _, rfl, rfl, _, rfl, _, _, rfl, rfl, .inl ⟨_, rfl, _, _, rfl, rfl, (show (0 : Int) < 2147483647 by decide), ?_⟩⟩
    refine ⟨_, rfl, _, rfl, _, _, rfl, rfl, .inl ⟨by omega, by omega⟩, _, _, rfl, rfl, .inl ⟨_, rfl, _, _, rfl, rfl, (show (0 : Int) < 2147483629 by decide), ?_⟩⟩
    refine ⟨_, rfl, _, _, rfl, rfl, .inl ⟨by omega, by omega⟩, .inl ⟨_, rfl, _, _, rfl, rfl, (show (0 : Int) < 2147483587 by decide), ?_⟩⟩
    exact k _ (Int.emod_nonneg _ (by decide)) (Int.emod_lt_of_pos _ (by decide))

/-- all but what stands at p is as it was -/
def But (p : Addr) (H H' : Hp) : Prop := ∀ b o, b ≠ p → H b = some o → H' b = some o
theorem But.trans {p : Addr} {H H1 H2 : Hp} (a : But p H H1) (b : But p H1 H2) : But p H H2 := fun c o n h => b c o n (a c o n h)
theorem But.refl (p : Addr) (H : Hp) : But p H H := fun _ _ _ h => h
theorem Same.but {p : Addr} {H H1 : Hp} (a : Same H H1) : But p H H1 := fun c o _ h => a c o h
def spDraw : Sp := fun vs H Q _ => ∃ (p : Addr) (f : Nat) (m : Int), vs = [.ref p, .int m] ∧ PurseAt H p (f + 1) ∧ (1 ≤ m ∧ m ≤ 1000000) ∧ ∀ (r : Int) (H' : Hp), 0 ≤ r → r < m → PurseAt H' p f → But p H H' → Q (.int r) H'
theorem bits_small {m : Int} (h0 : 1 ≤ m) (h1 : m ≤ 1000000) : ((Builtin.Int.intBits m : Nat) : Int) / 28 = 0 := by
  have b : Builtin.Int.intBits m ≤ m.natAbs.log2 + 1 := by
    unfold Builtin.Int.intBits
    split <;> omega
  have h2 : m.natAbs.log2 < 20 := (Nat.log2_lt (by omega)).mpr (by omega)
  omega
theorem scDraw : FnScope ["_law_purse_here", "_law_many", "_law_drawn", "_law_found", "_law_piece"] ["_law_purse_here", "_law_many"] (defScope sDraw) := ⟨rfl, rfl, rfl, by decide +kernel, rfl, by decide +kernel, by decide +kernel⟩
theorem ok_draw (F : FnP K "_law_draw" sDraw f fd) (T : Nm mg) (FM : FnP K "_law_mixed" sMixed fM fdM) (gM : mg "_law_mixed" = some (.ref fM)) : FnOk P w K mg base CX0 2 f fd ["_law_purse_here", "_law_many"] spDraw := by
  have GM : FnOk P w K mg base CX0 1 fM fdM ["_law_seed", "_law_spin", "_law_at"] spMixed := ok_mixed FM T
  have bM : Binds K fdM ["_law_seed", "_law_spin", "_law_at"] [] := FM.bindsN fun _ _ _ _ _ _ us hl => match us, hl with | [_, _, _], _ => rfl
  refine F.ok scDraw (fun vs H Q E h => ?_) (fun cdv A outer s H vs Q E hr h => ?_)
  · obtain ⟨p, g, m, rfl, _⟩ := h
    rfl
  · obtain ⟨p, g, m, rfl, ⟨x, y, c, t, hp, hx, hy, hc, ht⟩, hm, k⟩ := h
    refine ⟨_, PSs.nox (pss_cons (ps_if (pt_cmpR op_gt (pe_ix ix_list (pv 0) pe_int (fun _ _ => rfl)) pe_int (nomark _))
        (pss_cons (ps_set (i := 2) scDraw.nd rfl (Or.inl rfl) (pe_op op_mod (pe_callTy call_int1 (by rfl) T.int (by decide +kernel) (pa_cons (pe_ix ix_list (pv 0) pe_int (fun _ _ => rfl)) pa_nil)) (pv 1)))
        (pss_cons (ps_asg (pe_op op_fdiv (pe_ix ix_list (pv 0) pe_int (fun _ _ => rfl)) (pv 1)) (pg_sub (pv 0) pe_int set_list))
        (pss_one (ps_ret (pv 2))))) pss_nil)
      (pss_cons (ps_set (i := 3) scDraw.nd rfl (Or.inl rfl) pe_int)
      (pss_cons (ps_for PassesOwn.never rfl (pi_range1 rfl T.range (pa_cons (pe_op op_add pe_int (pe_op op_fdiv (pe_bits (pv 1)) pe_int)) pa_nil)) (pg_name (i := 4) scDraw.nd rfl (Or.inl rfl))
        (pss_cons (ps_asg (pe_op op_add (pe_ix ix_list (pv 0) pe_int (fun _ _ => rfl)) pe_int) (pg_sub (pv 0) pe_int set_list))
        (pss_one (ps_set (i := 3) scDraw.nd rfl (Or.inl rfl) (pe_op op_add (pe_op op_mul (pv 3) pe_int) (pe_call GM hr rfl gM FM.kp bM .nil pass0 (pa_cons (pe_ix ix_list (pv 0) pe_int (fun _ _ => rfl)) (pa_cons (pe_ix ix_list (pv 0) pe_int (fun _ _ => rfl)) (pa_cons (pe_ix ix_list (pv 0) pe_int (fun _ _ => rfl)) pa_nil)))))))))
      (pss_one (ps_ret (pe_op op_mod (pe_callTy call_int1 (by rfl) T.int (by decide +kernel) (pa_cons (pv 3) pa_nil)) (pv 1))))))), ?_⟩
    refine ⟨_, rfl, p, _, _, _, rfl, rfl, SqL.of hp, atI_nat (j := 0) rfl, _, _, rfl, rfl, _, rfl, ?_⟩
    refine ite2 (fun hd => ?_) (fun hd => ?_)
    · refine ⟨_, rfl, p, _, _, _, rfl, rfl, SqL.of hp, atI_nat (j := 0) rfl, .inl ⟨_, rfl, _, rfl, _, _, rfl, rfl, (show (0 : Int) < m by omega), ?_⟩⟩
      refine ⟨_, rfl, p, _, _, _, rfl, rfl, SqL.of hp, atI_nat (j := 0) rfl, _, rfl, _, _, rfl, rfl, ⟨by omega, by omega⟩, _, rfl, p, _, _, 0, rfl, rfl, hp, rfl, ?_⟩
      refine ⟨_, rfl, ?_⟩
      refine k _ _ (Int.emod_nonneg _ (by omega)) (Int.emod_lt_of_pos _ (by omega)) ⟨x / m, y, c, t, upd_same, Int.ediv_nonneg hx (by omega), hy, ⟨hc.1, by omega⟩, ht⟩ fun b o n z => ?_
      rw [upd_ne n]
      exact z
    · refine ⟨_, rfl, _, rfl, _, _, rfl, rfl, (show (0 : Int) < 28 ∧ (28 : Int) < 1073741824 by decide), _, _, rfl, rfl, ?_⟩
      rw [bits_small hm.1 hm.2]
      refine ⟨_, rfl, by decide, by decide, for_range (lo := 0) (n := 1) (fun i σ H2 => ∃ (r : Int) (v : Option V), σ = [some (.ref p), some (.int m), none, some (.int r), v] ∧ 0 ≤ r ∧ (i = 0 → H2 = H) ∧ (i = 1 → PurseAt H2 p g ∧ But p H H2))
        ⟨0, none, rfl, by decide, fun _ => rfl, fun z => by cases z⟩ ?_ ?_⟩
      · rintro i σ H2 hi ⟨r, v, rfl, hr0, h0, _⟩
        obtain rfl : i = 0 := by omega
        obtain rfl := h0 rfl
        refine ⟨_, rfl, p, _, _, _, rfl, rfl, SqL.of hp, atI_nat (j := 2) rfl, _, _, rfl, rfl, _, rfl, p, _, _, 2, rfl, rfl, hp, rfl, ?_⟩
        refine ⟨_, rfl, _, _, rfl, rfl, .inr ⟨by decide, by decide⟩, _, rfl, p, _, _, _, rfl, rfl, SqL.of upd_same, atI_nat (j := 1) rfl, _, rfl, p, _, _, _, rfl, rfl, SqL.of upd_same, atI_nat (j := 2) rfl, _, rfl, p, _, _, _, rfl, rfl, SqL.of upd_same, atI_nat (j := 3) rfl, ?_⟩
        refine ⟨y, c + 1, t, rfl, hy, ⟨by omega, by omega⟩, ht, fun q q0 q1 => ?_⟩
        refine ⟨_, _, rfl, rfl, r * 2147483587 + q, _, rfl, by omega, (fun z => by cases z), fun _ => ⟨⟨x, y, c + 1, t, upd_same, hx, hy, ⟨by omega, by omega⟩, ht⟩, fun b o n z => ?_⟩⟩
        rw [upd_ne n]
        exact z
      · rintro σ H2 ⟨r, v, rfl, hr0, _, h1⟩
        obtain ⟨hP, hB⟩ := h1 rfl
        refine ⟨_, rfl, .inl ⟨_, rfl, _, rfl, _, _, rfl, rfl, (show (0 : Int) < m by omega), ?_⟩⟩
        exact k _ _ (Int.emod_nonneg _ (by omega)) (Int.emod_lt_of_pos _ (by omega)) hP hB

def FUEL : Nat := 1000000000000
def spPurse (K : PySem.W.Frag) : Sp := fun vs H Q _ => ∃ (a : Addr) (ns : List Int) (t : Int), vs = [.ref a, .int t] ∧ SqL K H a (ns.map V.int) ∧ (0 ≤ t ∧ t ≤ 63) ∧ ∀ (p : Addr) (H' : Hp), H p = none → Same H H' → PurseAt H' p FUEL → Q (.ref p) H'
theorem cut_ints (ns : List Int) (lo hi : Option Int) : ∃ ms : List Int, cutV (ns.map V.int) lo hi = ms.map V.int := by
  unfold cutV
  rw [← List.map_drop, ← List.map_take]
  exact ⟨_, rfl⟩
theorem scPurse : FnScope ["_law_script", "_law_at", "_law_seed"] ["_law_script", "_law_at"] (defScope sPurse) := ⟨rfl, rfl, rfl, by decide +kernel, rfl, by decide +kernel, by decide +kernel⟩
theorem big_pos : (0 : Int) < ((10 : Int) ^ (60 : Int).toNat) ^ (8 : Int).toNat := Int.pow_pos (Int.pow_pos (by decide))
theorem pow_ok : CPowW ((10 : Int) ^ (60 : Int).toNat) 8 := ⟨by decide, by decide +kernel⟩
theorem ok_purse (F : FnP K "_law_purse" sPurse f fd) (T : Nm mg) : FnOk P w K mg base CX0 1 f fd ["_law_script", "_law_at"] (spPurse K) := by
  refine F.ok scPurse (fun vs H Q E h => ?_) (fun cdv A outer s H vs Q E hr h => ?_)
  · obtain ⟨a, ns, t, rfl, _⟩ := h
    rfl
  · obtain ⟨a, ns, t, rfl, hS, ht, k⟩ := h
    refine ⟨_, PSs.nox (pss_cons (ps_set (i := 2) scPurse.nd rfl (Or.inl rfl) (pe_callB (cr_sum rfl) (by rfl) T.sum (by decide +kernel) (pa_cons (pe_slice sl_list (pv 0) (po_some (pv 1)) (po_some (pe_op op_add (pv 1) pe_int))) pa_nil)))
      (pss_one (ps_ret (pe_lst (pa_cons (pe_op op_mod (pe_callTy call_int1 (by rfl) T.int (by decide +kernel) (pa_cons (pe_callB (call_max2 rfl) (by rfl) T.max (by decide +kernel) (pa_cons (pe_op op_sub (pv 2) (pe_op op_pow pe_int pe_int)) (pa_cons pe_int pa_nil))) pa_nil)) (pe_op op_powW (pe_op op_pow pe_int pe_int) pe_int))
        (pa_cons (pe_op op_mod (pe_callTy call_int1 (by rfl) T.int (by decide +kernel) (pa_cons (pv 2) pa_nil)) pe_int) (pa_cons pe_int (pa_cons (pv 1) pa_nil)))))))), ?_⟩
    obtain ⟨ms, hms⟩ := cut_ints ns (some t) (some (t + 1))
    refine ⟨_, rfl, _, rfl, _, rfl, _, rfl, _, _, rfl, rfl, _, rfl, a, _, rfl, hS, fun p np => ?_⟩
    refine ⟨p, ms, rfl, SqL.of (by rw [upd_same, hms]), ?_⟩
    refine ⟨_, rfl, _, _, rfl, rfl, ⟨by decide, by decide, by decide⟩, _, _, rfl, rfl, _, _, rfl, .inl ⟨_, rfl, _, _, rfl, rfl, ⟨by decide, by decide, by decide⟩, _, _, rfl, rfl, pow_ok, _, _, rfl, rfl, big_pos, ?_⟩⟩
    refine ⟨_, rfl, .inl ⟨_, rfl, _, _, rfl, rfl, (show (0 : Int) < 2147483629 by decide), _, rfl, (by show 4 ≤ sizeLine; decide), fun q nq => ?_⟩⟩
    have hq : H q = none := by
      by_cases e : q = p
      · rw [e]
        exact np
      · rw [upd_ne e] at nq
        exact nq
    refine k q _ hq (fun b o z => ?_) ⟨_, _, 0, t, upd_same, Int.emod_nonneg _ (Int.ne_of_gt big_pos), ⟨Int.emod_nonneg _ (by decide), Int.lt_trans (Int.emod_lt_of_pos _ (by decide)) (by decide)⟩, ⟨by decide, by decide⟩, ht⟩
    rw [upd_ne (ne_of_none z hq), upd_ne (ne_of_none z np)]
    exact z
def spOne (K : PySem.W.Frag) : Sp := fun vs H Q _ => ∃ (p a : Addr) (f : Nat) (xs : List V), vs = [.ref p, .ref a] ∧ PurseAt H p (f + 1) ∧ SqL K H a xs ∧ a ≠ p ∧ (0 < xs.length ∧ xs.length ≤ 1000000) ∧ ∀ (i : Nat) (x : V) (H' : Hp), xs[i]? = some x → PurseAt H' p f → But p H H' → Q x H'

theorem But.seq {K : PySem.W.Frag} {p a : Addr} {H H' : Hp} {xs : List V} (b : But p H H') (n : a ≠ p) (h : SqL K H a xs) : SqL K H' a xs := by
  rcases h with (h | ⟨o, h⟩) | h
  · exact .inl (.inl (b _ _ n h))
  · exact .inl (.inr ⟨o, b _ _ n h⟩)
  · exact .inr h
theorem atI_in {α : Type} (xs : List α) {r : Int} (h0 : 0 ≤ r) (h1 : r < xs.length) : ∃ (i : Nat) (x : α), xs[i]? = some x ∧ atI xs r = some x := by
  have hi : r.toNat < xs.length := by omega
  refine ⟨r.toNat, xs[r.toNat], List.getElem?_eq_getElem hi, ?_⟩
  have e : r = (r.toNat : Int) := (Int.toNat_of_nonneg h0).symm
  have z := atI_nat (List.getElem?_eq_getElem hi)
  rw [← e] at z
  exact z
theorem scOne : FnScope ["_law_purse_here", "_law_some"] ["_law_purse_here", "_law_some"] (defScope sOne) := ⟨rfl, rfl, rfl, by decide +kernel, rfl, by decide +kernel, by decide +kernel⟩
theorem ok_one {fD : Addr} {fdD : FuncData} (F : FnP K "_law_one_of" sOne f fd) (T : Nm mg) (GD : FnOk P w K mg base CX0 2 fD fdD ["_law_purse_here", "_law_many"] spDraw) (bD : Binds K fdD ["_law_purse_here", "_law_many"] []) (kD : PySem.W.keepIn K (.ref fD) = true) (gD : mg "_law_draw" = some (.ref fD)) :
    FnOk P w K mg base CX0 3 f fd ["_law_purse_here", "_law_some"] (spOne K) := by
  refine F.ok scOne (fun vs H Q E h => ?_) (fun cdv A outer s H vs Q E hr h => ?_)
  · obtain ⟨p, a, g, xs, rfl, _⟩ := h
    rfl
  · obtain ⟨p, a, g, xs, rfl, hP, hS, ne, hl, k⟩ := h
    refine ⟨_, PSs.nox (pss_one (ps_ret (pe_ix ix_list (pv 1) (pe_call GD hr rfl gD kD bD .nil pass0 (pa_cons (pv 0) (pa_cons (pe_callB call_len (by rfl) T.len PySem.boot_len (pa_cons (pv 1) pa_nil)) pa_nil))) (fun _ _ => rfl)))), ?_⟩
    refine ⟨_, rfl, _, rfl, _, rfl, _, xs.length, rfl, Or.inl ⟨_, hS, rfl⟩, p, g, (xs.length : Int), rfl, hP, ⟨by omega, by omega⟩, fun r H' r0 r1 hP' hB => ?_⟩
    obtain ⟨i, x, hi, hx⟩ := atI_in xs r0 r1
    exact ⟨a, xs, r, x, rfl, rfl, hB.seq ne hS, hx, k i x H' hi hP' hB⟩
/-- a word of the language -/
def WordOk (z : Str) : Prop := (1 ≤ z.length ∧ z.length ≤ 8) ∧ ∀ c ∈ z.cps.toList, 97 ≤ c ∧ c ≤ 122
def spWord : Sp := fun vs H Q _ => ∃ (p : Addr) (f : Nat), vs = [.ref p] ∧ PurseAt H p (f + 10) ∧ ∀ (z : Str) (H' : Hp), WordOk z → PurseAt H' p f → But p H H' → Q (.str z) H'
theorem joinL_nil : ∀ l : List (List Nat), TL.joinL [] l = l.flatten
  | [] => rfl
  | [p] => by simp [TL.joinL]
  | p :: q :: r => by
    show p ++ ([] ++ TL.joinL [] (q :: r)) = _
    rw [joinL_nil (q :: r)]
    simp
def abc : Str := "abcdefghijklmnopqrstuvwxyz"
theorem abc_at {r : Int} (h0 : 0 ≤ r) (h1 : r < 26) : ∃ c : Nat, atI abc.cps.toList r = some c ∧ (97 ≤ c ∧ c ≤ 122) := by
  obtain ⟨i, x, hi, hx⟩ := atI_in abc.cps.toList h0 (by show r < (26 : Nat); omega)
  refine ⟨x, hx, ?_⟩
  have hall : ∀ c ∈ abc.cps.toList, 97 ≤ c ∧ c ≤ 122 := by decide +kernel
  exact hall x (List.mem_of_getElem? hi)
/-- one sign each -/
def Signs (ys : List Str) : Prop := ∀ y ∈ ys, ∃ c : Nat, y = ⟨#[c]⟩ ∧ (97 ≤ c ∧ c ≤ 122)
theorem signs_flat : ∀ {ys : List Str}, Signs ys → ((ys.map TL.tl).flatten.length = ys.length ∧ ∀ c ∈ (ys.map TL.tl).flatten, 97 ≤ c ∧ c ≤ 122)
  | [], _ => ⟨rfl, fun c z => nomatch z⟩
  | y :: r, h => by
    obtain ⟨i1, i2⟩ := signs_flat (ys := r) fun z hz => h z (List.mem_cons_of_mem _ hz)
    obtain ⟨c, rfl, hc⟩ := h y (List.mem_cons_self ..)
    refine ⟨?_, fun d hd => ?_⟩
    · show ([c] ++ (r.map TL.tl).flatten).length = _
      rw [List.length_append, i1]
      show 1 + r.length = r.length + 1
      omega
    · have hd2 : d ∈ [c] ++ (r.map TL.tl).flatten := hd
      rcases List.mem_append.mp hd2 with z | z
      · rw [List.mem_singleton.mp z]
        exact hc
      · exact i2 d z
theorem word_of {ys : List Str} (h : Signs ys) (h1 : 1 ≤ ys.length) (h8 : ys.length ≤ 8) : WordOk (Txt.join "" ys) := by
  obtain ⟨i1, i2⟩ := signs_flat h
  have e : (Txt.join "" ys).cps.toList = (ys.map TL.tl).flatten := by
    rw [TL.join_eq]
    show TL.tl (Str.join "" ys) = _
    rw [TL.tl_join]
    exact joinL_nil _
  have el : (Txt.join "" ys).length = ys.length := by
    show (Txt.join "" ys).cps.size = _
    rw [← Array.length_toList, e, i1]
  exact ⟨⟨by omega, by omega⟩, fun c hc => i2 c (by rw [← e]; exact hc)⟩
theorem signs_len : ∀ {ys : List Str}, Signs ys → (ys.map (·.length)).sum = ys.length
  | [], _ => rfl
  | y :: r, h => by
    have i := signs_len (ys := r) fun z hz => h z (List.mem_cons_of_mem _ hz)
    obtain ⟨c, rfl, _⟩ := h y (List.mem_cons_self ..)
    rw [List.map_cons, List.sum_cons, i, List.length_cons]
    show 1 + r.length = r.length + 1
    omega
theorem scWord : FnScope ["_law_purse_here", "_law_size", "_law_spin"] ["_law_purse_here"] (defScope sWord) := ⟨rfl, rfl, rfl, by decide +kernel, rfl, by decide +kernel, by decide +kernel⟩
theorem ok_word {fD : Addr} {fdD : FuncData} (F : FnP K "_law_word" sWord f fd) (T : Nm mg) (GD : FnOk P w K mg base CX0 2 fD fdD ["_law_purse_here", "_law_many"] spDraw) (bD : Binds K fdD ["_law_purse_here", "_law_many"] []) (kD : PySem.W.keepIn K (.ref fD) = true) (gD : mg "_law_draw" = some (.ref fD)) :
    FnOk P w K mg base CX0 3 f fd ["_law_purse_here"] spWord := by
  refine F.ok scWord (fun vs H Q E h => ?_) (fun cdv A outer s H vs Q E hr h => ?_)
  · obtain ⟨p, g, rfl, _⟩ := h
    rfl
  · obtain ⟨p, g, rfl, hP, k⟩ := h
    refine ⟨_, PSs.nox (pss_cons (ps_set (i := 1) scWord.nd rfl (Or.inl rfl) (pe_op op_add pe_int (pe_call GD hr rfl gD kD bD .nil pass0 (pa_cons (pv 0) (pa_cons (pe_ifExp (pt_cmpR op_eq (pe_call GD hr rfl gD kD bD .nil pass0 (pa_cons (pv 0) (pa_cons pe_int pa_nil))) pe_int (nomark _)) pe_int pe_int) pa_nil)))))
      (pss_one (ps_ret (pe_join pe_str (pe_lc (own := [("_law_spin", 2)]) (g := gName 2) (tt := tYes) rfl scWord.nd (pi_range1 rfl T.range (pa_cons (pv 1) pa_nil)) (blkOk_by (own := [("_law_spin", 2)]) (N := ["_law_purse_here", "_law_size", "_law_spin"]) (sc := defScope sWord) (by decide +kernel))
        (fun _ _ _ _ _ => pg_name (i := 2) scWord.nd rfl (Or.inl rfl)) (fun _ _ _ _ _ => pts_nil)
        (fun _ _ _ _ _ => pe_ix ix_str pe_str (pe_call GD hr rfl gD kD bD .nil pass0 (pa_cons (pv 0) (pa_cons pe_int pa_nil))) (fun _ _ => rfl))))))), ?_⟩
    refine ⟨_, rfl, _, rfl, p, g + 9, 3, rfl, hP, ⟨by decide, by decide⟩, fun r H1 r0 r1 hP1 hB1 => ⟨rfl, _, rfl, ?_⟩⟩
    refine ite2 (fun hd => ⟨p, g + 8, 8, rfl, hP1, ⟨by decide, by decide⟩, fun r2 H2 r20 r21 hP2 hB2 => ⟨_, _, rfl, rfl, ?_⟩⟩) (fun hd => ⟨p, g + 8, 3, rfl, hP1, ⟨by decide, by decide⟩, fun r2 H2 r20 r21 hP2 hB2 => ⟨_, _, rfl, rfl, ?_⟩⟩)
    all_goals
      have hB : But p H H2 := hB1.trans hB2
      have hn : ((1 + r2).toNat : Int) = 1 + r2 := Int.toNat_of_nonneg (by omega)
      generalize hN : (1 + r2).toNat = n at hn
      refine ⟨⟨_, rfl⟩, _, rfl, _, rfl, (show -(2 ^ 62) ≤ (1 + r2 : Int) by omega), (show (1 + r2 : Int) < 2 ^ 62 by omega), fun D hD => ?_⟩
      have nD : D ≠ p := fun z => by
        obtain ⟨x, y, c, t, e, _⟩ := hP2
        rw [z, e] at hD
        cases hD
      have hD0 : H D = none := by
        cases e : H D with
        | none => rfl
        | some o =>
          rw [hB D o nD e] at hD
          cases hD
      refine lc_range (lo := 0) (n := (1 + r2).toNat) (fun i H3 => ∃ ys : List Str, ys.length = i ∧ Signs ys ∧ H3 D = some (.lst (ys.map V.str)) ∧ PurseAt H3 p (g + 8 - i) ∧ But p H H3) ?_ ?_ ?_
      · refine ⟨[], rfl, (fun y z => nomatch z), upd_same, ?_, fun b o nb z => ?_⟩
        · obtain ⟨x, y, c, t, e, h1⟩ := hP2
          exact ⟨x, y, c, t, by rw [upd_ne nD.symm]; exact e, h1⟩
        · rw [upd_ne (ne_of_none z hD0)]
          exact hB b o nb z
      · rintro i H3 hi ⟨ys, hl, hs, hDy, hP3, hB3⟩
        have e1 : g + 8 - i = g + 8 - (i + 1) + 1 := by omega
        rw [e1] at hP3
        refine ⟨rfl, ?_⟩
        refine ⟨_, rfl, p, g + 8 - (i + 1), 26, rfl, hP3, ⟨by decide, by decide⟩, fun r3 H4 r30 r31 hP4 hB4 => ?_⟩
        obtain ⟨c, hc, hc1⟩ := abc_at r30 r31
        have hD4 : H4 D = some (.lst (ys.map V.str)) := hB4 _ _ nD hDy
        refine ⟨_, _, c, rfl, rfl, (by show 26 ≤ sizeLine; decide), hc, _, hD4, (by rw [List.length_map]; exact small1000 (by omega)), ys ++ [⟨#[c]⟩], (by rw [List.length_append]; show ys.length + 1 = _; omega), ?_, ?_, ?_, ?_⟩
        · intro y hy
          rcases List.mem_append.mp hy with z | z
          · exact hs y z
          · exact ⟨c, List.mem_singleton.mp z, hc1⟩
        · rw [upd_same, List.map_append]
          rfl
        · obtain ⟨x, y, c2, t, e, h1⟩ := hP4
          exact ⟨x, y, c2, t, by rw [upd_ne nD.symm]; exact e, h1⟩
        · intro b o nb z
          rw [upd_ne (ne_of_none z hD0)]
          exact hB4 b o nb (hB3 b o nb z)
      · rintro H3 ⟨ys, hl, hs, hDy, hP3, hB3⟩
        refine ⟨_, D, ys, rfl, rfl, .inl (SqL.of hDy), ?_, ?_⟩
        · rw [signs_len hs]
          show ys.length + ys.length * 0 ≤ 16777216
          omega
        · exact k _ H3 (word_of hs (by omega) (by omega)) (hP3.less (by omega)) hB3

theorem PurseAt.to {H H' : Hp} {p : Addr} {f : Nat} (h : PurseAt H p f) (k : ∀ o, H p = some o → H' p = some o) : PurseAt H' p f := by
  obtain ⟨x, y, c, t, e, h1⟩ := h
  exact ⟨x, y, c, t, k _ e, h1⟩
theorem PurseAt.some {H : Hp} {p : Addr} {f : Nat} (h : PurseAt H p f) : ∃ o, H p = some o := by
  obtain ⟨x, y, c, t, e, h1⟩ := h
  exact ⟨_, e⟩
def spPurses (K : PySem.W.Frag) : Sp := fun vs H Q _ => ∃ (a : Addr) (ns : List Int) (w : Int), vs = [.ref a, .int w] ∧ SqL K H a (ns.map V.int) ∧ ns.length ≤ 63 ∧ (1 ≤ w ∧ w ≤ 63) ∧
  ∀ (L : Addr) (ps : List Addr) (H' : Hp), ps ≠ [] → (ps.length : Int) ≤ w → H L = none → H' L = some (.lst (ps.map V.ref)) → (∀ q ∈ ps, PurseAt H' q FUEL ∧ H q = none ∧ q ≠ L) → ps.Nodup → Same H H' → Q (.ref L) H'
theorem scPurses : FnScope ["_law_script", "_law_few", "_law_at"] ["_law_script", "_law_few"] (defScope sPurses) := ⟨rfl, rfl, rfl, by decide +kernel, rfl, by decide +kernel, by decide +kernel⟩
theorem ok_purses {fD : Addr} {fdD : FuncData} (F : FnP K "_law_purses" sPurses f fd) (T : Nm mg) (GD : FnOk P w K mg base CX0 1 fD fdD ["_law_script", "_law_at"] (spPurse K)) (bD : Binds K fdD ["_law_script", "_law_at"] []) (kD : PySem.W.keepIn K (.ref fD) = true) (gD : mg "_law_purse" = some (.ref fD)) :
    FnOk P w K mg base CX0 2 f fd ["_law_script", "_law_few"] (spPurses K) := by
  refine F.ok scPurses (fun vs H Q E h => ?_) (fun cdv A outer s H vs Q E hr h => ?_)
  · obtain ⟨a, ns, w, rfl, _⟩ := h
    rfl
  · obtain ⟨a, ns, w, rfl, hS, hl, hw, k⟩ := h
    refine ⟨_, PSs.nox (pss_one (ps_ret (pe_lc (own := [("_law_at", 2)]) (g := gName 2) (tt := tYes) rfl scPurses.nd (pi_range1 rfl T.range (pa_cons (pe_callB (call_max2 rfl) (by rfl) T.max (by decide +kernel) (pa_cons pe_int (pa_cons (pe_callB (call_min2 rfl) (by rfl) T.min (by decide +kernel) (pa_cons (pv 1) (pa_cons (pe_callB call_len (by rfl) T.len PySem.boot_len (pa_cons (pv 0) pa_nil)) pa_nil))) pa_nil))) pa_nil)) (blkOk_by (own := [("_law_at", 2)]) (N := ["_law_script", "_law_few", "_law_at"]) (sc := defScope sPurses) (by decide +kernel))
        (fun _ _ _ _ _ => pg_name (i := 2) scPurses.nd rfl (Or.inl rfl)) (fun _ _ _ _ _ => pts_nil)
        (fun _ _ _ _ _ => pe_call GD hr rfl gD kD bD .nil pass0 (pa_cons (pv 0) (pa_cons (pv 2) pa_nil)))))), ?_⟩
    generalize hm : (if (ns.length : Int) < w then (ns.length : Int) else w) = m
    generalize hn : (if m > 1 then m else 1) = n
    have hm63 : m ≤ w := by
      rw [← hm]
      split <;> omega
    have hn1 : 1 ≤ n ∧ n ≤ w := by
      rw [← hn]
      split <;> omega
    refine ⟨_, rfl, _, rfl, _, ns.length, rfl, Or.inl ⟨_, hS, (List.length_map _).symm⟩, _, _, rfl, _, _, rfl, n, ?_, (by omega), (by omega), fun D hD => ?_⟩
    · rw [hm, hn]
    refine lc_range (lo := 0) (n := n.toNat) (fun i H3 => ∃ ps : List Addr, ps.length = i ∧ H3 D = some (.lst (ps.map V.ref)) ∧ (∀ q ∈ ps, PurseAt H3 q FUEL ∧ H q = none ∧ q ≠ D) ∧ ps.Nodup ∧ Same H H3) ?_ ?_ ?_
    · refine ⟨[], rfl, upd_same, (fun q z => nomatch z), List.nodup_nil, fun b o z => ?_⟩
      rw [upd_ne (ne_of_none z hD)]
      exact z
    · rintro i H3 hi ⟨ps, hl3, h3, hps, hnd, s3⟩
      refine ⟨rfl, ?_⟩
      refine ⟨_, rfl, _, rfl, a, ns, (0 + (i : Int)), rfl, s3.seq hS, ⟨by omega, by omega⟩, fun q H4 nq s4 hq => ?_⟩
      have h4 : H4 D = some (.lst (ps.map V.ref)) := s4 _ _ h3
      have nqD : q ≠ D := fun z => by
        rw [z, h3] at nq
        cases nq
      have nqp : q ∉ ps := fun z => by
        obtain ⟨o, e⟩ := (hps q z).1.some
        rw [nq] at e
        cases e
      refine ⟨_, h4, (by rw [List.length_map]; exact small1000 (by omega)), ps ++ [q], (by rw [List.length_append]; show ps.length + 1 = _; omega), ?_, fun z hz => ?_, ?_, fun b o z => ?_⟩
      · rw [upd_same, List.map_append]
        rfl
      · rcases List.mem_append.mp hz with hz | hz
        · obtain ⟨h1, h2, h5⟩ := hps z hz
          exact ⟨(h1.to fun o e => by rw [upd_ne h5]; exact s4 _ _ e), h2, h5⟩
        · rw [List.mem_singleton.mp hz]
          exact ⟨(hq.to fun o e => by rw [upd_ne nqD]; exact e), s3.free nq, nqD⟩
      · refine List.nodup_append.mpr ⟨hnd, by simp, fun x hx y hy e => ?_⟩
        rw [List.mem_singleton.mp hy] at e
        exact nqp (e ▸ hx)
      · rw [upd_ne (ne_of_none z hD)]
        exact s4 _ _ (s3 _ _ z)
    · rintro H3 ⟨ps, hl3, h3, hps, hnd, s3⟩
      refine k D ps H3 (fun z => ?_) (by omega) hD h3 hps hnd s3
      rw [z] at hl3
      simp only [List.length_nil] at hl3
      omega
end
end Yt

set_option Elab.async false
set_option linter.all false
set_option maxRecDepth 100000
set_option maxHeartbeats 2000000
namespace Yt
open PySem PySem.Spec PyProof.Rows L2
/-! ### dicts whose keys are tuples, made by a comprehension -/
/-- a new item under a tuple, as the comprehension stores it -/
theorem set_tup {X : Cx} {pins : List (Addr × Obj)} {σ : L2.St} {H : Hp} {s : Shared} {E : Value → Shared → Prop} {D b : Addr} {m : List (List Key × V)} {k : List Key} {v : V} {u r : Value} {Q : Unit → Shared → Prop}
    (hu : X.A.units < cLine) (I : Inv X pins σ H s) (hD : H D = some (.dT m)) (few : m.length < sizeLine) (hb : H b = some (.tup (k.map kV))) (ry : RelV (.ref b) u) (rv : RelV v r)
    (q : ∀ t, Inv X pins σ (upd H D (.dT (putK m k v))) t → Q () t) : wpAny (model X.prog X.w) X.A (dictSet D u r) Q E s := by
  obtain rfl : u = Value.ref b := ry
  obtain ⟨le, nosys, xs, rel, dd⟩ := dt_of I.hok hD
  refine wpAny_dictSet_heap (hsz := by rw [← Paired.length rel]; exact le) hu (key_of I.hok hb) dd fun h2 dd2 same => q _ ?_
  obtain ⟨o, es, ep, f1, f2, f3, f4, _, f5⟩ := dd2
  have small : (putK m k v).length ≤ sizeLine := by
    have := length_putK m k v
    omega
  refine d_write I (by rw [hD]; trivial) same ⟨o, f1⟩ ⟨small, nosys, _, (rel.put k hb rv).keeps fun c ys ec => ?_, o, es, ep, f1, f2, f3, f4, f5⟩
  exact (upd_ne (ne_of ec hD (fun z => nomatch z))).trans ec
/-- what one turn of such a comprehension stores -/
def stT (D : Addr) (y z : V) (H : Hp) (N : Hp → Prop) : Prop := ∃ (m : List (List Key × V)) (k : List Key) (b : Addr), y = .ref b ∧ H b = some (.tup (k.map kV)) ∧ H D = some (.dT m) ∧ m.length < sizeLine ∧ N (upd H D (.dT (putK m k z)))
/-- one turn -/
def turnT (g : TG) (tt : TT) (tk tv : TE) (vs : List Nat) (σ : L2.St) (D : Addr) (x : V) (H : Hp) (N : Hp → Prop) : Prop :=
  g x (wipe σ vs) H fun σ2 H2 => wipe σ2 vs = wipe σ vs ∧ tt σ2 H2 fun c H3 => if c = true then tk σ2 H3 fun y H4 => tv σ2 H4 fun z H5 => stT D y z H5 N else N H3
def goesT (g : TG) (tt : TT) (tk tv : TE) (vs : List Nat) (σ : L2.St) (J : It) (D : Addr) (W : Nat → Nat → Hp → Prop) (R : Hp → Prop) : Prop :=
  ∀ i m H, W i m H → (J.stop i H ∧ R H) ∨ (J.go i H ∧ ∃ N : Hp → Prop, (∀ H', N H' → ∃ m', m' < m ∧ W (i + 1) m' H') ∧ ∀ x H', J.yld i H x H' → turnT g tt tk tv vs σ D x H' N)
/-- {k: v for target in iter if ..}, its keys tuples -/
def tDcT (wi : TI) (g : TG) (tt : TT) (tk tv : TE) (vs : List Nat) : TE := fun σ H Q =>
  wi σ H fun J H1 => ∀ D, H1 D = none → ∃ W : Nat → Nat → Hp → Prop, (∃ m, W 0 m (upd H1 D (.dT []))) ∧ goesT g tt tk tv vs σ J D W fun H2 => Q (.ref D) H2

section
variable {X : Cx}
/-- the comprehension: its block, its loop, its end -/
theorem dcT_core {pins : List (Addr × Obj)} {s : Shared} {σ : L2.St} {H : Hp} {Q : VK} {kx vx tg it : Expr} {ifs : List Expr} {sc : Scope} {own : List (Str × Nat)} {p p' : Pos} {wi : TI} {g : TG} {tt : TT} {tk tv : TE} {Qf : Value → Shared → Prop}
    (calm : X.calm = true) (nd : X.N.Nodup) (hu : X.A.units < cLine) (I : Inv X pins σ H s) (hi : PI X tg it wi) (ok : BlkOk X.N X.env.scope sc own)
    (hg : ∀ s H C cl fp, PG (X.blk s H sc (compEnvC sc cl C X.env) fp) tg g) (ht : ∀ s H C cl fp, PTs (X.blk s H sc (compEnvC sc cl C X.env) fp) ifs tt)
    (hk : ∀ s H C cl fp, PE (X.blk s H sc (compEnvC sc cl C X.env) fp) kx tk) (hv : ∀ s H C cl fp, PE (X.blk s H sc (compEnvC sc cl C X.env) fp) vx tv)
    (hs : ∀ x, foldedSetIterable it X.env x = pure x) (h : tDcT wi g tt tk tv (own.map (·.2)) σ H Q)
    (fin : ∀ D C t m H', Inv X pins σ H' t → Q (.ref D) H' → t.heap.Ns C m → FpOk X pins H' C → compPost (model X.prog X.w) X.A X.xe none Qf (.ref D) C (.ok .next) t) :
    wpAny (model X.prog X.w) X.A (comprehension (.DictComp kx vx [⟨tg, it, ifs, 0⟩] sc p) sc X.env p' newDict false (eval it X.env)) Qf X.xe s := by
  have clo : ∀ y ∈ sc.names, y.2 = .free → ∃ c, X.env.cells.lookup y.1 = some c := fun y hy e => (ok.free y hy e).elim (fun k => I.ok.has _ (.inl k)) fun k => I.ok.has _ (.inr k)
  refine wpAny_comprehension_free (use := none) rfl hs (closure_ok clo) ok.kind (fun y hy e => by rw [ok.uniq y hy, e]) (thn (hi.run pins s σ H _ I h) fun _ s1 hx => thn hx fun _ s2 ⟨a, fp, tn, J, H2, ea, I2, T, st2, f2, q⟩ => ?_)
  subst ea
  refine wpAny_newObj_type (newEnv_comp ?_)
  obtain ⟨D, hD⟩ : ∃ D, D = s2.heap.objs.size := ⟨_, rfl⟩
  rw [← hD]
  have nD : H2 D = none := I2.hok.fresh (Nat.le_of_eq hD.symm)
  obtain ⟨W, ⟨m0, w0⟩, turn⟩ := q D nD
  have I3 : Inv X pins σ (upd H2 D (.dT [])) ⟨s2.heap.push { cls := .type "dict", data := .dict #[] }, s2.gens, s2.drawn, s2.toks, s2.os⟩ := by
    refine I2.laid (t' := s2.toks) (fun b o e => Heap.get?_push_of_some _ e) (Nat.le_of_eq hD.symm) ?_
    rw [hD]
    exact dt_empty s2.heap I2.big
  have live : ∀ b ∈ fp, b < s2.heap.objs.size := fun b hb => (T.obj _ _ st2 b hb).elim fun o e => Heap.lt_size e.1
  have f3 : ∀ b ∈ fp, FpOk X pins (upd H2 D (.dT [])) b ∧ b < (s2.heap.push { cls := .type "dict", data := .dict #[] }).objs.size := fun b hb =>
    ⟨⟨(upd_ne (by rw [hD]; exact Nat.ne_of_lt (live b hb))).trans (f2 b hb).1, (f2 b hb).2⟩, by rw [Heap.size_push]; exact Nat.lt_succ_of_lt (live b hb)⟩
  have st3 : tn 0 (s2.heap.push { cls := .type "dict", data := .dict #[] }) := T.keep _ _ _ st2 fun b _ o e => Heap.get?_push_of_some _ e
  have I4 := block_start I3 ok nd f3
  generalize hs3 : (⟨s2.heap.push { cls := .type "dict", data := .dict #[] }, s2.gens, s2.drawn, s2.toks, s2.os⟩ : Shared) = s3 at I3 I4 ⊢
  have h3 : s3.heap = s2.heap.push { cls := .type "dict", data := .dict #[] } := by rw [← hs3]
  rw [← h3] at f3 st3
  have pg := hg s3 (upd H2 D (.dT [])) s3.heap.objs.size (cellsFrom (s3.heap.objs.size + 1) sc.names (cloFrom X.env.cells sc.names [])) fp
  have pt := ht s3 (upd H2 D (.dT [])) s3.heap.objs.size (cellsFrom (s3.heap.objs.size + 1) sc.names (cloFrom X.env.cells sc.names [])) fp
  have pk := hk s3 (upd H2 D (.dT [])) s3.heap.objs.size (cellsFrom (s3.heap.objs.size + 1) sc.names (cloFrom X.env.cells sc.names [])) fp
  have pv := hv s3 (upd H2 D (.dT [])) s3.heap.objs.size (cellsFrom (s3.heap.objs.size + 1) sc.names (cloFrom X.env.cells sc.names [])) fp
  have unt : ∀ b ∈ fp, (upd H2 D (.dT [])) b = none := fun b hb => (f3 b hb).1.1
  show codeAny _ _ (.compStart (.DictComp kx vx [⟨tg, it, ifs, 0⟩] sc p) 0 (.ref a) (.ref D) (compEnvC sc (cellsFrom (s3.heap.objs.size + 1) sc.names (cloFrom X.env.cells sc.names [])) s3.heap.objs.size X.env)) _ ({ s3 with heap := pushCells (s3.heap.push { cls := .type "dict", data := .dict #[] }) sc.names } : Shared)
  obtain ⟨ce, hce⟩ : ∃ c, c = compEnvC sc (cellsFrom (s3.heap.objs.size + 1) sc.names (cloFrom X.env.cells sc.names [])) s3.heap.objs.size X.env := ⟨_, rfl⟩
  rw [← hce] at I4 pg pt pk pv ⊢
  have cL : ce.locals = s3.heap.objs.size := by rw [hce] <;> rfl
  obtain ⟨H3, hH3⟩ : ∃ G, G = upd H2 D (.dT []) := ⟨_, rfl⟩
  rw [← hH3] at I3 I4 pg pt pk pv w0 unt f3
  generalize hs4 : ({ s3 with heap := pushCells (s3.heap.push { cls := .type "dict", data := .dict #[] }) sc.names } : Shared) = s4 at I4 ⊢
  have st4 : tn 0 s4.heap := T.keep _ _ _ st3 fun b _ o e => by
    rw [← hs4]
    exact pushCells_keeps _ _ _ _ (Heap.get?_push_of_some _ e)
  have pinned : ∀ {σ' : L2.St} {G : Hp} {t : Shared}, Inv (X.blk s3 H3 sc ce fp) [] σ' G t → (∀ b ∈ fp, G b = none) → ∀ b ∈ fp, FpOk (X.blk s3 H3 sc ce fp) [] G b := fun {σ' G t} J' hn b hb =>
    ⟨hn b hb, (J'.ok.exf b hb).1, J'.ok.exfs b hb, .inl hb, fun x c e => (J'.ok.exf b hb).2 x c e, fun r hr => absurd (show r ∈ ([] : List (Addr × Obj)) ++ [] from hr) (by simp)⟩
  have loop : codeAny (model X.prog X.w) X.A (.compLoop (.DictComp kx vx [⟨tg, it, ifs, 0⟩] sc p) 0 (.ref a) (.ref D) ce) (compPost (model X.prog X.w) X.A X.xe none Qf (.ref D) s3.heap.objs.size) s4 := by
    refine compLoop_anyD (fun n t => ∃ i G, Inv (X.blk s3 H3 sc ce fp) [] (wipe σ (own.map (·.2))) G t ∧ tn i t.heap ∧ (∀ b ∈ fp, G b = none) ∧ W i n G) ?_ m0 ⟨0, H3, I4, st4, unt, w0⟩
    rintro n t5 ⟨i, H5, I5, st5, n5, w5⟩
    rcases turn i n H5 w5 with ⟨stop, qq⟩ | ⟨go, N, hN, step⟩
    · refine thnF (T.done (X.blk s3 H3 sc ce fp) rfl rfl rfl calm i [] t5 _ H5 (fun _ _ => False) I5 (pinned I5 n5) st5 stop) fun r t6 ⟨hr, I6⟩ => ?_
      subst hr
      have nC : H5 s3.heap.objs.size = none := by
        have z : H5 ce.locals = none := I6.free
        rwa [cL] at z
      obtain ⟨mm, hn, _⟩ := I6.loc
      have hn' : t6.heap.Ns ce.locals mm := hn
      rw [cL] at hn'
      exact fin D s3.heap.objs.size t6 mm H5 (I3.call' (ch := fp) I6.os I6.base I6.hok I6.bare fun b hb => ⟨(f3 b hb).1.2.2.2.1, (f3 b hb).1.2.1, (f3 b hb).1.2.2.2.2.1, (f3 b hb).1.2.2.2.2.2⟩) qq hn' (I3.fpOk (Nat.le_refl _) nC)
    · refine thnF (T.item (X.blk s3 H3 sc ce fp) rfl rfl rfl calm i [] t5 _ H5 (fun _ _ => False) I5 (pinned I5 n5) st5 go) fun r t6 ⟨u, hr, h6⟩ => ?_
      subst hr
      refine thnF h6 fun _ t7 ⟨x, H7, I7, r7, y7, st7, n7⟩ => ?_
      refine thnF (pg.run _ t7 _ H7 x u _ (I7.pinned (pinned I7 n7) (T.obj _ _ st7)) r7 (step x H7 y7)) fun _ t8 ⟨σ8, H8, I8, hw8, q8⟩ => ?_
      refine thnF (pt.run _ t8 σ8 H8 _ I8 q8) fun b t9 ⟨H9, I9, q9⟩ => ?_
      have back : ∀ {t : Shared} {G : Hp}, Inv (X.blk s3 H3 sc ce fp) ([] ++ pinsAt fp t7.heap) σ8 G t → N G → ∃ m, m < n ∧ ∃ i G, Inv (X.blk s3 H3 sc ce fp) [] (wipe σ (own.map (·.2))) G t ∧ tn i t.heap ∧ (∀ b ∈ fp, G b = none) ∧ W i m G := fun {t G} J' nx => by
        obtain ⟨m', lt, w'⟩ := hN G nx
        have held : ∀ b ∈ fp, ∀ o, t7.heap.get? b = some o → t.heap.get? b = some o ∧ G b = none := fun b hb o e =>
          have z := J'.pin (b, o) (List.mem_append_right _ (List.mem_append_right _ (mem_pinsAt hb e)))
          ⟨z.1, z.2.1⟩
        refine ⟨m', lt, i + 1, G, (J'.unpinned (pins := [])).weak (by rw [← hw8, wipe_length]) (fun j v e => (wipe_some (hw8.symm ▸ e)).1), T.keep _ _ _ st7 fun b hb o e => (held b hb o e).1, fun b hb => ?_, w'⟩
        obtain ⟨o, e, _⟩ := T.obj _ _ st7 b hb
        exact (held b hb o e).2
      cases b with
      | false => exact back I9 q9
      | true =>
        refine thnF (pk.run _ t9 σ8 H9 _ I9 q9) fun zk t10 ⟨yk, H10, I10, r10, q10⟩ => ?_
        refine thnF (pv.run _ t10 σ8 H10 _ I10 q10) fun zv t11 ⟨yv, H11, I11, r11, mm, k, bb, ek, hb11, hD11, few, nx⟩ => ?_
        subst ek
        exact set_tup (X := X.blk s3 H3 sc ce fp) hu I11 hD11 few hb11 r10 r11 fun t12 I12 => back I12 nx
  exact codeAny_compStart_dict loop (T.self X.A 0 _ _ _ st4 loop)
theorem pe_dcT {kx vx tg it : Expr} {ifs : List Expr} {sc : Scope} {own : List (Str × Nat)} {p : Pos} {wi : TI} {g : TG} {tt : TT} {tk tv : TE} (calm : X.calm = true) (nd : X.N.Nodup) (hu : X.A.units < cLine) (hi : PI X tg it wi) (ok : BlkOk X.N X.env.scope sc own)
    (hg : ∀ s H C cl fp, PG (X.blk s H sc (compEnvC sc cl C X.env) fp) tg g) (ht : ∀ s H C cl fp, PTs (X.blk s H sc (compEnvC sc cl C X.env) fp) ifs tt)
    (hk : ∀ s H C cl fp, PE (X.blk s H sc (compEnvC sc cl C X.env) fp) kx tk) (hv : ∀ s H C cl fp, PE (X.blk s H sc (compEnvC sc cl C X.env) fp) vx tv) (hs : ∀ x, foldedSetIterable it X.env x = pure x := by intro _; rfl) :
    PE X (.DictComp kx vx [⟨tg, it, ifs, 0⟩] sc p) (tDcT wi g tt tk tv (own.map (·.2))) := by
  refine ⟨fun pins s σ H Q I h => ?_⟩
  rw [arm_eval_DictComp]
  refine dcT_core calm nd hu I hi ok hg ht hk hv hs h fun D C t m H' J q hn f => ⟨m, hn, fun h2 sb => ?_⟩
  obtain ⟨f0, f1, f2, f3, f4, f5⟩ := f
  exact ⟨.ref D, H', J.turned (t' := t.toks) (fun b o hb e => (sb.2 b hb).trans e) f0 f1 f3 f4 f5, rfl, q⟩
end
/-- such a comprehension over a list that stays -/
theorem dcT_list {K : PySem.W.Frag} {a D : Addr} {xs : List V} {g : TG} {tt : TT} {tk tv : TE} {vs : List Nat} {σ : L2.St} {H1 : Hp} {R : Hp → Prop} (Pv : Nat → Hp → Prop) (h0 : Pv 0 (upd H1 D (.dT []))) (hl : ∀ i H, i ≤ xs.length → Pv i H → SqL K H a xs)
    (hs : ∀ i x H, xs[i]? = some x → Pv i H → turnT g tt tk tv vs σ D x H (Pv (i + 1))) (hd : ∀ H, Pv xs.length H → R H) : ∃ W : Nat → Nat → Hp → Prop, (∃ m, W 0 m (upd H1 D (.dT []))) ∧ goesT g tt tk tv vs σ (Itl K a) D W R := by
  refine ⟨fun i m H => m = xs.length - i ∧ i ≤ xs.length ∧ Pv i H, ⟨_, rfl, Nat.zero_le _, h0⟩, ?_⟩
  rintro i m H ⟨rfl, le, pv⟩
  rcases Nat.lt_or_ge i xs.length with lt | ge
  · refine .inr ⟨⟨xs, xs[i], hl i H le pv, List.getElem?_eq_getElem lt⟩, Pv (i + 1), fun H' p' => ⟨xs.length - (i + 1), by omega, rfl, lt, p'⟩, ?_⟩
    rintro x H' ⟨rfl, y⟩
    exact hs i x _ (y xs (hl i _ le pv)) pv
  · obtain rfl : i = xs.length := Nat.le_antisymm le ge
    exact .inl ⟨⟨xs, hl _ H le pv, Nat.le_refl _⟩, hd H pv⟩
end Yt

set_option Elab.async false
set_option linter.all false
set_option maxRecDepth 100000
set_option maxHeartbeats 2000000
namespace Yt
open PySem PySem.Spec PyProof.Rows L2
/-! ### dict(xs), xs a list of pairs whose first ones are tuples -/
/-- what such a dict holds: a later pair wins, the place is the first one's -/
def mergeT (m l : List (List Key × V)) : List (List Key × V) := l.foldl (fun acc e => putK acc e.1 e.2) m
theorem mergeT_len (l : List (List Key × V)) : ∀ m, (mergeT m l).length ≤ m.length + l.length := by
  induction l with
  | nil => exact fun m => Nat.le_refl _
  | cons e l ih =>
    intro m
    have h1 := ih (putK m e.1 e.2)
    have h2 := length_putK m e.1 e.2
    show (mergeT (putK m e.1 e.2) l).length ≤ _
    rw [List.length_cons]
    omega
theorem putK_new {m : List (List Key × V)} {k : List Key} {v : V} (h : k ∉ m.map (·.1)) : putK m k v = m ++ [(k, v)] := by
  unfold putK
  rw [if_neg]
  intro z
  obtain ⟨e, he, q⟩ := List.any_eq_true.mp z
  exact h (List.mem_map.mpr ⟨e, he, of_decide_eq_true q⟩)
/-- unlike keys: just the pairs -/
theorem mergeT_unlike (l : List (List Key × V)) : ∀ m, ((m ++ l).map (·.1)).Nodup → mergeT m l = m ++ l := by
  induction l with
  | nil => intro m _; rw [List.append_nil] <;> rfl
  | cons e l ih =>
    intro m nd
    have hn : e.1 ∉ m.map (·.1) := fun z => by
      rw [List.map_append, List.map_cons] at nd
      exact (List.nodup_append.mp nd).2.2 _ z _ List.mem_cons_self rfl
    have assoc : m ++ e :: l = (m ++ [e]) ++ l := by rw [List.append_assoc] <;> rfl
    show mergeT (putK m e.1 e.2) l = _
    rw [putK_new hn, ih _ (by rw [← assoc]; exact nd)]
    exact assoc.symm
section
variable {X : Cx}
abbrev PairT (K : PySem.W.Frag) (H : Hp) (p : Addr) (e : Addr × List Key × V) : Prop := SqT K H p [.ref e.1, e.2.2] ∧ H e.1 = some (.tup (e.2.1.map kV))
theorem trips {pins : List (Addr × Obj)} {σ : L2.St} {H : Hp} {s : Shared} (I : Inv X pins σ H s) : ∀ {ps : List Addr} {ks : List (Addr × List Key × V)}, Paired (PairT X.K H) ps ks →
    ∃ tr : List (List Key × Addr × Value), Paired (fun (e : Addr × List Key × V) t => t.1 = e.2.1 ∧ t.2.1 = e.1 ∧ H e.1 = some (.tup (e.2.1.map kV)) ∧ RelV e.2.2 t.2.2) ks tr ∧ tr.length = ps.length ∧
      ∀ (j : Nat) t, tr[j]? = some t → ∃ b, ps[j]? = some b ∧ IsTup s.heap b #[.ref t.2.1, t.2.2]
  | _, _, .nil => ⟨[], .nil, rfl, fun j t e => by simp at e⟩
  | _, _, .cons (a := p) (b := e) ⟨h, hk⟩ r => by
    obtain ⟨tr, rel, hl, hp⟩ := trips I r
    obtain ⟨its, rv, it, _⟩ := I.tuple h
    obtain ⟨u, y, ei, ru, ry⟩ := vals2 rv
    subst ei
    obtain rfl : u = Value.ref e.1 := ru
    refine ⟨(e.2.1, e.1, y) :: tr, .cons ⟨rfl, rfl, hk, ry⟩ rel, by rw [List.length_cons, List.length_cons, hl], fun j t ht => ?_⟩
    match j, ht with
    | 0, ht =>
      obtain rfl : (e.2.1, e.1, y) = t := Option.some.inj ht
      exact ⟨p, rfl, it⟩
    | j + 1, ht =>
      obtain ⟨b, e1, e2⟩ := hp j t (by simpa using ht)
      exact ⟨b, by simpa using e1, e2⟩
theorem merge_kt {H : Hp} : ∀ {ks : List (Addr × List Key × V)} {tr : List (List Key × Addr × Value)} {m : List (List Key × V)} {xs : List (List Key × Addr × Value)},
    Paired (fun (e : Addr × List Key × V) t => t.1 = e.2.1 ∧ t.2.1 = e.1 ∧ H e.1 = some (.tup (e.2.1.map kV)) ∧ RelV e.2.2 t.2.2) ks tr → KT H m xs → KT H (mergeT m (ks.map (·.2))) (storedAllH xs tr)
  | _, _, _, _, .nil, r => r
  | _, _, m, xs, .cons (a := e) (b := t) ⟨h1, h2, h3, h4⟩ rest, r => by
    have := merge_kt rest (r.put e.2.1 (b := e.1) h3 h4)
    rw [← h1, ← h2] at this
    rw [List.map_cons]
    show KT H (mergeT (putK m e.2.1 e.2.2) _) (storedAllH (storedH xs t.1 t.2.1 t.2.2) _)
    rw [← h1]
    exact this
theorem call_dictPT (calm : X.calm = true) (hu : X.A.units + 2 < cLine) : CallR X (.type "dict") (fun xs H Q => ∃ (a : Addr) (ps : List Addr) (ks : List (Addr × List Key × V)), xs = [.ref a] ∧ SqL X.K H a (ps.map V.ref) ∧ Paired (PairT X.K H) ps ks ∧
    ∀ p, H p = none → Q (.ref p) (upd H p (.dT (mergeT [] (ks.map (·.2)))))) := by
  intro pins s σ H xs us Q I r q
  obtain ⟨a, ps, ks, rfl, hq, hp, q⟩ := q
  obtain ⟨u, rfl, rx⟩ := vals1 r
  cases rx
  obtain ⟨its, rv, pl, hz⟩ := I.list hq
  obtain rfl := refs_at rv
  rw [List.length_map] at hz
  obtain ⟨tr, rel, hl, hpr⟩ := trips I hp
  obtain ⟨o, n, ho, hc, hd, hdat⟩ := pl
  have nm : (tr.map fun t => (Value.ref t.2.1, t.2.2)).length = tr.length := List.length_map _
  have key : ∀ x ∈ tr, (tupleKind (mixKind X.prog X.w)).is s.heap x.1 x.2.1 := by
    have go : ∀ {ks : List (Addr × List Key × V)} {tr : List (List Key × Addr × Value)}, Paired (fun (e : Addr × List Key × V) t => t.1 = e.2.1 ∧ t.2.1 = e.1 ∧ H e.1 = some (.tup (e.2.1.map kV)) ∧ RelV e.2.2 t.2.2) ks tr → ∀ x ∈ tr, (tupleKind (mixKind X.prog X.w)).is s.heap x.1 x.2.1 := by
      intro ks tr h
      induction h with
      | nil => intro x hx; exact nomatch hx
      | cons h _ ih =>
        intro x hx
        rcases List.mem_cons.mp hx with rfl | hx
        · rw [h.1, h.2.1]
          exact key_of I.hok h.2.2.1
        · exact ih x hx
    exact go rel
  refine PySem.call_dict_pairsH (knd := tupleKind (mixKind X.prog X.w)) (ps := tr) (PairArg.list a (ps.map Value.ref).toArray (fun j => ps.getD j 0) (tr.map fun t => (Value.ref t.2.1, t.2.2))) (I.ok.hd calm) hu ⟨⟨o, n, ho, hc, hd, hdat⟩, ?_, fun j k v e => ?_⟩
    ⟨nm.symm, fun i kk v e => ?_⟩ (fun h2 keep x hx => ?_) (by rw [nm, hl]; exact hz) (fun h2 tk dd keep => ?_)
  · rw [nm, hl]
    simp
  · rw [List.getElem?_map] at e
    obtain ⟨t, et, ee⟩ := Option.map_eq_some_iff.mp e
    cases ee
    obtain ⟨b, e1, e2⟩ := hpr j t et
    have eb : ps.getD j 0 = b := by rw [List.getD_eq_getElem?_getD, e1] <;> rfl
    show _ = some (Value.ref (ps.getD j 0)) ∧ PairAt s.heap (ps.getD j 0) _ _
    rw [eb]
    exact ⟨by simp [e1], .inl e2⟩
  · have e : (tr.map fun t => (Value.ref t.2.1, t.2.2))[i]? = some (kk, v) := e
    rw [List.getElem?_map] at e
    obtain ⟨t, et, ee⟩ := Option.map_eq_some_iff.mp e
    cases ee
    exact ⟨t.1, t.2.1, et, rfl⟩
  · obtain ⟨o', items, n', f1, f2⟩ := key x hx
    exact ⟨o', items, n', keep _ _ (Nat.ne_of_lt (Heap.lt_size f1)) (by simp) f1, f2⟩
  · have nosys : (s.heap.objs.size == sysModules) = false := beq_eq_false_iff_ne.mpr (Nat.ne_of_gt I.big)
    have few : (mergeT [] (ks.map (·.2))).length ≤ sizeLine := by
      refine Nat.le_trans (mergeT_len _ _) ?_
      rw [List.length_nil, Nat.zero_add, List.length_map, rel.length, hl]
      exact hz
    obtain ⟨q1, es, ep, d1, d2, d3, d4, _, d5⟩ := dd
    refine ⟨.ref s.heap.objs.size, upd H s.heap.objs.size (.dT (mergeT [] (ks.map (·.2)))), I.laid (t' := tk) (fun b o e => keep b o (by simp) e) (Nat.le_refl _) ⟨few, nosys, _, (merge_kt rel (.nil : KT H [] [])).keeps fun b ys ec => ?_, q1, es, ep, d1, d2, d3, d4, d5⟩, rfl, q _ (I.hok.fresh (Nat.le_refl _))⟩
    exact (upd_ne (ne_of_none ec (I.hok.fresh (Nat.le_refl _)))).trans ec
end
end Yt

set_option Elab.async false
set_option linter.all false
set_option maxRecDepth 100000
set_option maxHeartbeats 2000000
namespace Yt
open PySem PySem.Spec PyProof.Rows L2
abbrev sExact : Stmt := top 40
abbrev sWords : Stmt := top 42
abbrev sMarks : Stmt := top 43
theorem same_new {H : Hp} {a : Addr} {o : HO} (n : H a = none) : Same H (upd H a o) := fun b u z => by
  rw [upd_ne (ne_of_none z n)]
  exact z
end Yt

set_option Elab.async false
set_option linter.all false
set_option maxRecDepth 100000
set_option maxHeartbeats 2000000
namespace Yt
open PySem PySem.Spec PyProof.Rows L2
structure Nm6 (mg : Str → Option Value) : Prop where
  isi : mg "isinstance" = none
  list : mg "list" = none
  tuple : mg "tuple" = none
  dict : mg "dict" = none
  bool : mg "bool" = none
  zip : mg "zip" = none
  all : mg "all" = none
/-- what holds nothing -/
def leafV : V → Bool
  | .int _ | .bl _ | .str _ | .non => true
  | _ => false
/-- the same data, of the same kinds, at most so deep; nothing of it stands at A -/
def Ex (H : Hp) : Nat → List Addr → V → V → Prop
  | 0, _, x, y => x = y ∧ leafV x = true
  | n + 1, A, x, y => (x = y ∧ leafV x = true) ∨
    (∃ (a b : Addr) (xs ys : List V), x = .ref a ∧ y = .ref b ∧ a ∉ A ∧ b ∉ A ∧ H a = some (.lst xs) ∧ H b = some (.lst ys) ∧ Paired (Ex H n A) xs ys ∧ xs.length ≤ 1000) ∨
    (∃ (a b : Addr) (xs ys : List V), x = .ref a ∧ y = .ref b ∧ a ∉ A ∧ b ∉ A ∧ H a = some (.tup xs) ∧ H b = some (.tup ys) ∧ Paired (Ex H n A) xs ys ∧ xs.length ≤ 1000) ∨
    (∃ (a b : Addr) (m l : List (List Key × V)), x = .ref a ∧ y = .ref b ∧ a ≠ b ∧ a ∉ A ∧ b ∉ A ∧ H a = some (.dT m) ∧ H b = some (.dT l) ∧ Paired (fun p q => p.1 = q.1 ∧ p.1.length ≤ 1000 ∧ Ex H n (a :: A) p.2 q.2) m l ∧ m.length ≤ 1000 ∧ 2 ≤ n ∧ (m.map (·.1)).Nodup)
theorem Ex.to {H H' : Hp} : ∀ {n : Nat} {A : List Addr} {x y : V}, Ex H n A x y → (∀ c o, c ∉ A → H c = some o → H' c = some o) → Ex H' n A x y
  | 0, _, _, _, h, _ => h
  | n + 1, A, x, y, h, k => by
    rcases h with h | ⟨a, b, xs, ys, rfl, rfl, h1, h2, h3, h4, h5, h6⟩ | ⟨a, b, xs, ys, rfl, rfl, h1, h2, h3, h4, h5, h6⟩ | ⟨a, b, m, l, rfl, rfl, h0, h1, h2, h3, h4, h5, h6⟩
    · exact .inl h
    · exact .inr (.inl ⟨a, b, xs, ys, rfl, rfl, h1, h2, k _ _ h1 h3, k _ _ h2 h4, Paired.mapP h5 fun _ _ z => z.to k, h6⟩)
    · exact .inr (.inr (.inl ⟨a, b, xs, ys, rfl, rfl, h1, h2, k _ _ h1 h3, k _ _ h2 h4, Paired.mapP h5 fun _ _ z => z.to k, h6⟩))
    · exact .inr (.inr (.inr ⟨a, b, m, l, rfl, rfl, h0, h1, h2, k _ _ h1 h3, k _ _ h2 h4, Paired.mapP h5 fun _ _ z => ⟨z.1, z.2.1, z.2.2.to fun c o hc => k c o fun q => hc (List.mem_cons_of_mem _ q)⟩, h6⟩))
theorem Ex.leaf {H : Hp} {n : Nat} {A : List Addr} {x : V} (h : leafV x = true) : Ex H n A x x := by
  cases n with
  | zero => exact ⟨rfl, h⟩
  | succ n => exact .inl ⟨rfl, h⟩
theorem bl_self (x : V) : V.bl (decide (x = x)) = V.bl true := by simp
theorem any_lt {K : PySem.W.Frag} {t : Value} {b c d : Bool} (h1 : PySem.W.kitOne K t (.type "list") = some b) (h2 : PySem.W.kitOne K t (.type "tuple") = some c) (e : (b || c) = d) : PySem.W.kitAny K t [.type "list", .type "tuple"] = some d := by
  subst e
  unfold PySem.W.kitAny
  rw [h1]
  cases b
  · unfold PySem.W.kitAny
    rw [h2]
    cases c <;> rfl
  · rfl
theorem valV_at : ∀ {m : List (List Key × V)} {i : Nat} {k : List Key} {v : V}, (m.map (·.1)).Nodup → m[i]? = some (k, v) → valV m k = some v
  | [], _, _, _, _, h => by simp at h
  | (k0, v0) :: m, 0, k, v, nd, h => by
    cases Option.some.inj h
    simp [valV]
  | (k0, v0) :: m, i + 1, k, v, nd, h => by
    have nd' := List.nodup_cons.mp nd
    have h' : m[i]? = some (k, v) := by simpa using h
    have ne : k0 ≠ k := fun e => nd'.1 (List.mem_map.mpr ⟨(k, v), List.mem_of_getElem? h', e.symm⟩)
    have := valV_at nd'.2 h'
    unfold valV at this ⊢
    rw [List.find?_cons_of_neg (by simpa using ne)]
    exact this
theorem leaf_key (k : Key) : leafV (kV k) = true := by cases k <;> rfl
theorem keys_ex {H H1 H2 : Hp} {R : List Key × V → List Key × V → Prop} {j : Nat} (k1 : ∀ b o, H1 b = some o → H b = some o) (k2 : ∀ b o, H2 b = some o → H b = some o) : ∀ {u l : List (List Key × V)} {bs cs : List Addr}, Paired (fun p q => p.1 = q.1 ∧ p.1.length ≤ 1000 ∧ R p q) u l → IsKeys H1 u bs → IsKeys H2 l cs →
    Paired (Ex H (j + 1) []) (bs.map V.ref) (cs.map V.ref)
  | _, _, _, _, .nil, .nil, .nil => .nil
  | _, _, _, _, .cons (a := p) (b := q) h t, .cons h1 t1, .cons h2 t2 => by
    refine .cons (.inr (.inr (.inl ⟨_, _, _, _, rfl, rfl, by simp, by simp, k1 _ _ h1, k2 _ _ h2, ?_, ?_⟩))) (keys_ex k1 k2 t t1 t2)
    · rw [← h.1]
      have go : ∀ ks : List Key, Paired (Ex H j []) (ks.map kV) (ks.map kV) := fun ks => by
        induction ks with
        | nil => exact .nil
        | cons k ks ih => exact .cons (Ex.leaf (leaf_key k)) ih
      exact go _
    · rw [List.length_map]
      exact h.2.1
theorem keys_len {H : Hp} : ∀ {u : List (List Key × V)} {bs : List Addr}, IsKeys H u bs → bs.length = u.length
  | _, _, .nil => rfl
  | _, _, .cons _ t => by rw [List.length_cons, List.length_cons, keys_len t]
theorem paired_at' {α β : Type} {R : α → β → Prop} : ∀ {xs : List α} {ys : List β}, Paired R xs ys → ∀ {i : Nat} {x : α}, xs[i]? = some x → ∃ y, ys[i]? = some y ∧ R x y
  | _, _, .nil, i, x, h => by simp at h
  | _, _, .cons h _, 0, x, hx => by
    cases Option.some.inj hx
    exact ⟨_, rfl, h⟩
  | _, _, .cons _ t, i + 1, x, hx => by
    obtain ⟨y, e, r⟩ := paired_at' t (by simpa using hx)
    exact ⟨y, by simpa using e, r⟩
theorem keys_same {R : List Key × V → List Key × V → Prop} : ∀ {u l : List (List Key × V)}, Paired (fun p q => p.1 = q.1 ∧ R p q) u l → u.map (·.1) = l.map (·.1)
  | _, _, .nil => rfl
  | _, _, .cons h t => by rw [List.map_cons, List.map_cons, h.1, keys_same t]
theorem all_rep (n : Nat) : (List.replicate n true).all id = true := by
  rw [List.all_eq_true]
  intro b h
  rw [(List.mem_replicate.mp h).2] <;> rfl
def spExact (K : PySem.W.Frag) : Nat → Sp
  | 0 => fun _ _ _ _ => False
  | n + 1 => fun vs H Q _ => ∃ (A : List Addr) (x y : V), vs = [x, y] ∧ Ex H n A x y ∧ ∀ H', Same H H' → Q (.bl true) H'
theorem walk_zipT {K : PySem.W.Frag} {a b : Addr} {xs ys : List V} {n : Nat} (hx : n = xs.length) (hy : n = ys.length) : Walk (RZ.ItzT K a b) n (fun H => SqT K H a xs ∧ SqT K H b ys) (YPair (fun i => xs[i]?) (fun i => ys[i]?)) := by
  refine ⟨fun i _ hi q => ⟨xs, ys, xs[i]'(by omega), ys[i]'(by omega), q.1, q.2, List.getElem?_eq_getElem _, List.getElem?_eq_getElem _⟩, fun _ q => ⟨xs, ys, q.1, q.2, .inl (by omega)⟩, ?_⟩
  rintro i H v H' _ q ⟨t, x, z, e1, e2, e3, e4, e5⟩
  exact ⟨t, x, z, e1, e2, e3, e4 xs q.1, e5 ys q.2⟩
theorem paired_get {α β : Type} {R : α → β → Prop} : ∀ {xs : List α} {ys : List β}, Paired R xs ys → ∀ {i : Nat} {x : α} {y : β}, xs[i]? = some x → ys[i]? = some y → R x y
  | _, _, .cons h t, 0, x, y, hx, hy => by
    cases Option.some.inj hx
    cases Option.some.inj hy
    exact h
  | _, _, .cons h t, i + 1, x, y, hx, hy => paired_get t (by simpa using hx) (by simpa using hy)
theorem len_ok {n : Nat} (h : n < 1001) : n < sizeLine := by
  rw [sizeLine_eq]
  omega
section
variable {P : Program} {w : World} {K : PySem.W.Frag} {mg : Str → Option Value} {base : Heap} {f : Addr} {fd : FuncData}
theorem scExact : FnScope ["_law_mine", "_law_theirs", "_law_alike", "_law_a", "_law_b", "_law_key"] ["_law_mine", "_law_theirs"] (defScope sExact) := ⟨rfl, rfl, rfl, by decide +kernel, rfl, by decide +kernel, by decide +kernel⟩
theorem ok_exact (F : FnP K "_law_exact" sExact f fd) (T : Nm mg) (T6 : Nm6 mg) (bE : Binds K fd ["_law_mine", "_law_theirs"] []) (kE : PySem.W.keepIn K (.ref f) = true) (gE : mg "_law_exact" = some (.ref f)) {n : Nat} (GE : FnOk P w K mg base CX0 n f fd ["_law_mine", "_law_theirs"] (spExact K n)) :
    FnOk P w K mg base CX0 (n + 1) f fd ["_law_mine", "_law_theirs"] (spExact K (n + 1)) := by
  refine F.ok scExact (fun vs H Q E h => ?_) (fun cdv A outer s H vs Q E hr h => ?_)
  · obtain ⟨_, x, y, rfl, _⟩ := h
    rfl
  · obtain ⟨B, x, y, rfl, hE, k⟩ := h
    have hu := hu_of hr
    refine ⟨_, PSs.nox (pss_cons (ps_if (pt_val (pe_callB call_isiT (by rfl) T6.isi (by decide +kernel) (pa_cons (pv 0) (pa_cons (pe_tup (pa_cons (pe_bltn (v := .ty "list") (u := .type "list") (by rfl) T6.list (by decide +kernel) rfl) (pa_cons (pe_bltn (v := .ty "tuple") (u := .type "tuple") (by rfl) T6.tuple (by decide +kernel) rfl) pa_nil))) pa_nil))))
        (pss_cons (ps_set (i := 2) scExact.nd rfl (Or.inl rfl) (pe_and (pe_cmpR op_eq (pe_callB call_isi (by rfl) T6.isi (by decide +kernel) (pa_cons (pv 1) (pa_cons (pe_bltn (v := .ty "list") (u := .type "list") (by rfl) T6.list (by decide +kernel) rfl) pa_nil))) (pe_callB call_isi (by rfl) T6.isi (by decide +kernel) (pa_cons (pv 0) (pa_cons (pe_bltn (v := .ty "list") (u := .type "list") (by rfl) T6.list (by decide +kernel) rfl) pa_nil))) (nomark _)) (pe_one (pe_cmpR op_eq (pe_callB call_isi (by rfl) T6.isi (by decide +kernel) (pa_cons (pv 1) (pa_cons (pe_bltn (v := .ty "tuple") (u := .type "tuple") (by rfl) T6.tuple (by decide +kernel) rfl) pa_nil))) (pe_callB call_isi (by rfl) T6.isi (by decide +kernel) (pa_cons (pv 0) (pa_cons (pe_bltn (v := .ty "tuple") (u := .type "tuple") (by rfl) T6.tuple (by decide +kernel) rfl) pa_nil))) (nomark _)))))
        (pss_one (ps_ret (pe_and (pv 2) (pe_and (pe_cmpR op_eq (pe_callB call_len (by rfl) T.len PySem.boot_len (pa_cons (pv 0) pa_nil)) (pe_callB call_len (by rfl) T.len PySem.boot_len (pa_cons (pv 1) pa_nil)) (nomark _)) (pe_one (pe_callB (cr_all rfl) (by rfl) T6.all (by decide +kernel) (pa_cons (pe_lc (own := [("_law_a", 3), ("_law_b", 4)]) (g := gTup K 2 (gCons (gName 3) (gCons (gName 4) gNil))) (tt := tYes) (te := tCall (spExact K n) [] E0 (tCons (tVar 3) (tCons (tVar 4) tNil))) rfl scExact.nd (RZ.pi_zipA rfl T6.zip (pa_cons (pv 0) (pa_cons (pv 1) pa_nil))) (blkOk_by (own := [("_law_a", 3), ("_law_b", 4)]) (N := ["_law_mine", "_law_theirs", "_law_alike", "_law_a", "_law_b", "_law_key"]) (sc := defScope sExact) (by decide +kernel))
          (fun _ _ _ _ _ => pg_tup rfl (pgs_cons (pg_name (i := 3) scExact.nd rfl (Or.inl rfl)) (pgs_cons (pg_name (i := 4) scExact.nd rfl (Or.inl rfl)) pgs_nil))) (fun _ _ _ _ _ => pts_nil) (fun _ _ _ _ _ => pe_call GE hr rfl gE kE bE .nil pass0 (pa_cons (pv 3) (pa_cons (pv 4) pa_nil)))) pa_nil)))))))) pss_nil)
      (pss_cons (ps_if (pt_val (pe_callB call_isi (by rfl) T6.isi (by decide +kernel) (pa_cons (pv 0) (pa_cons (pe_bltn (v := .ty "dict") (u := .type "dict") (by rfl) T6.dict (by decide +kernel) rfl) pa_nil))))
        (pss_cons (ps_set (i := 2) scExact.nd rfl (Or.inl rfl) (pe_and (pe_callB call_isi (by rfl) T6.isi (by decide +kernel) (pa_cons (pv 1) (pa_cons (pe_bltn (v := .ty "dict") (u := .type "dict") (by rfl) T6.dict (by decide +kernel) rfl) pa_nil))) (pe_one (pe_call GE hr rfl gE kE bE .nil pass0 (pa_cons (pe_callTy (call_list_dT rfl) (by rfl) T6.list (by decide +kernel) (pa_cons (pv 0) pa_nil)) (pa_cons (pe_callTy (call_list_dT rfl) (by rfl) T6.list (by decide +kernel) (pa_cons (pv 1) pa_nil)) pa_nil))))))
        (pss_one (ps_ret (pe_and (pv 2) (pe_one (pe_callB (cr_all rfl) (by rfl) T6.all (by decide +kernel) (pa_cons (pe_lock (pe_lc (own := [("_law_key", 5)]) (g := gName 5) (tt := tYes) (te := tCall (spExact K n) [] E0 (tCons (tDGet (tVar 0) (tVar 5)) (tCons (tDGet (tVar 1) (tVar 5)) tNil))) rfl scExact.nd (pi_keys (pv 0)) (blkOk_by (own := [("_law_key", 5)]) (N := ["_law_mine", "_law_theirs", "_law_alike", "_law_a", "_law_b", "_law_key"]) (sc := defScope sExact) (by decide +kernel))
          (fun _ _ _ _ _ => pg_name (i := 5) scExact.nd rfl (Or.inl rfl)) (fun _ _ _ _ _ => pts_nil) (fun _ _ _ _ _ => pe_call GE hr rfl gE kE bE .nil pass0 (pa_cons (pe_dget hu (pv 0) (pv 5) (fun _ _ => rfl)) (pa_cons (pe_dget hu (pv 1) (pv 5) (fun _ _ => rfl)) pa_nil))))) pa_nil))))))) pss_nil)
      (pss_cons (ps_set (i := 2) scExact.nd rfl (Or.inl rfl) (pe_cmpR op_eq (pe_callB call_isi (by rfl) T6.isi (by decide +kernel) (pa_cons (pv 0) (pa_cons (pe_bltn (v := .ty "int") (u := .type "int") (by rfl) T.int (by decide +kernel) rfl) pa_nil))) (pe_callB call_isi (by rfl) T6.isi (by decide +kernel) (pa_cons (pv 1) (pa_cons (pe_bltn (v := .ty "int") (u := .type "int") (by rfl) T.int (by decide +kernel) rfl) pa_nil))) (nomark _)))
      (pss_one (ps_ret (pe_and (pv 2) (pe_and (pe_cmpR op_eq (pe_callB call_isi (by rfl) T6.isi (by decide +kernel) (pa_cons (pv 0) (pa_cons (pe_bltn (v := .ty "bool") (u := .type "bool") (by rfl) T6.bool (by decide +kernel) rfl) pa_nil))) (pe_callB call_isi (by rfl) T6.isi (by decide +kernel) (pa_cons (pv 1) (pa_cons (pe_bltn (v := .ty "bool") (u := .type "bool") (by rfl) T6.bool (by decide +kernel) rfl) pa_nil))) (nomark _)) (pe_one (pe_cmpR op_eq (pv 0) (pv 1) (nomark _)))))))))), ?_⟩
    have cases4 : (x = y ∧ leafV x = true) ∨ ∃ m, n = m + 1 ∧
        ((∃ (a b : Addr) (xs ys : List V), x = .ref a ∧ y = .ref b ∧ a ∉ B ∧ b ∉ B ∧ H a = some (.lst xs) ∧ H b = some (.lst ys) ∧ Paired (Ex H m B) xs ys ∧ xs.length ≤ 1000) ∨
        (∃ (a b : Addr) (xs ys : List V), x = .ref a ∧ y = .ref b ∧ a ∉ B ∧ b ∉ B ∧ H a = some (.tup xs) ∧ H b = some (.tup ys) ∧ Paired (Ex H m B) xs ys ∧ xs.length ≤ 1000) ∨
        (∃ (a b : Addr) (u l : List (List Key × V)), x = .ref a ∧ y = .ref b ∧ a ≠ b ∧ a ∉ B ∧ b ∉ B ∧ H a = some (.dT u) ∧ H b = some (.dT l) ∧ Paired (fun p q => p.1 = q.1 ∧ p.1.length ≤ 1000 ∧ Ex H m (a :: B) p.2 q.2) u l ∧ u.length ≤ 1000 ∧ 2 ≤ m ∧ (u.map (·.1)).Nodup)) := by
      cases n with
      | zero => exact .inl hE
      | succ m => exact hE.imp id fun h => ⟨m, rfl, h⟩
    clear hE
    rcases cases4 with ⟨rfl, hl⟩ | ⟨m, rfl, ⟨a, b, xs, ys, rfl, rfl, h1, h2, h3, h4, h5, h6⟩ | ⟨a, b, xs, ys, rfl, rfl, h1, h2, h3, h4, h5, h6⟩ | ⟨a, b, u, l, rfl, rfl, h0, h1, h2, h3, h4, h5, h6, h7, h8⟩⟩
    · match x, hl with
      | .int z, _ =>
        refine ⟨_, rfl, (by show 2 ≤ sizeLine; decide), fun tp ntp => ⟨_, tp, _, .type "int", [.type "list", .type "tuple"], false, rfl, upd_same, .cons (.ty _) (.cons (.ty _) .nil), .base (.int _), any_lt (b := false) (c := false) (kit_ty (by decide +kernel)) (kit_ty (by decide +kernel)) rfl, _, rfl, ?_⟩⟩
        refine iteF ?_
        refine ⟨_, rfl, _, _, .type "int", _, false, rfl, .ty _, .base (.int _), kit_ty (by decide +kernel), _, rfl, ?_⟩
        refine iteF ?_
        refine ⟨_, rfl, _, _, .type "int", _, true, rfl, .ty _, .base (.int _), kit_ty (by decide +kernel), _, rfl, _, _, .type "int", _, true, rfl, .ty _, .base (.int _), kit_ty (by decide +kernel), rfl, ?_⟩
        refine ⟨_, rfl, true, rfl, ?_⟩
        refine iteT ?_
        refine ⟨_, rfl, _, _, .type "int", _, false, rfl, .ty _, .base (.int _), kit_ty (by decide +kernel), _, rfl, _, _, .type "int", _, false, rfl, .ty _, .base (.int _), kit_ty (by decide +kernel), rfl, true, rfl, ?_⟩
        refine iteT ?_
        refine ⟨_, rfl, _, rfl, rfl, ?_⟩
        rw [bl_self]
        exact k _ (same_new ntp)
      | .bl z, _ =>
        refine ⟨_, rfl, (by show 2 ≤ sizeLine; decide), fun tp ntp => ⟨_, tp, _, .type "bool", [.type "list", .type "tuple"], false, rfl, upd_same, .cons (.ty _) (.cons (.ty _) .nil), .base (.bl _), any_lt (b := false) (c := false) (kit_ty (by decide +kernel)) (kit_ty (by decide +kernel)) rfl, _, rfl, ?_⟩⟩
        refine iteF ?_
        refine ⟨_, rfl, _, _, .type "bool", _, false, rfl, .ty _, .base (.bl _), kit_ty (by decide +kernel), _, rfl, ?_⟩
        refine iteF ?_
        refine ⟨_, rfl, _, _, .type "bool", _, true, rfl, .ty _, .base (.bl _), kit_ty (by decide +kernel), _, rfl, _, _, .type "bool", _, true, rfl, .ty _, .base (.bl _), kit_ty (by decide +kernel), rfl, ?_⟩
        refine ⟨_, rfl, true, rfl, ?_⟩
        refine iteT ?_
        refine ⟨_, rfl, _, _, .type "bool", _, true, rfl, .ty _, .base (.bl _), kit_ty (by decide +kernel), _, rfl, _, _, .type "bool", _, true, rfl, .ty _, .base (.bl _), kit_ty (by decide +kernel), rfl, true, rfl, ?_⟩
        refine iteT ?_
        refine ⟨_, rfl, _, rfl, rfl, ?_⟩
        rw [bl_self]
        exact k _ (same_new ntp)
      | .str z, _ =>
        refine ⟨_, rfl, (by show 2 ≤ sizeLine; decide), fun tp ntp => ⟨_, tp, _, .type "str", [.type "list", .type "tuple"], false, rfl, upd_same, .cons (.ty _) (.cons (.ty _) .nil), .base (.str _), any_lt (b := false) (c := false) (kit_ty (by decide +kernel)) (kit_ty (by decide +kernel)) rfl, _, rfl, ?_⟩⟩
        refine iteF ?_
        refine ⟨_, rfl, _, _, .type "str", _, false, rfl, .ty _, .base (.str _), kit_ty (by decide +kernel), _, rfl, ?_⟩
        refine iteF ?_
        refine ⟨_, rfl, _, _, .type "str", _, false, rfl, .ty _, .base (.str _), kit_ty (by decide +kernel), _, rfl, _, _, .type "str", _, false, rfl, .ty _, .base (.str _), kit_ty (by decide +kernel), rfl, ?_⟩
        refine ⟨_, rfl, true, rfl, ?_⟩
        refine iteT ?_
        refine ⟨_, rfl, _, _, .type "str", _, false, rfl, .ty _, .base (.str _), kit_ty (by decide +kernel), _, rfl, _, _, .type "str", _, false, rfl, .ty _, .base (.str _), kit_ty (by decide +kernel), rfl, true, rfl, ?_⟩
        refine iteT ?_
        refine ⟨_, rfl, _, rfl, rfl, ?_⟩
        rw [bl_self]
        exact k _ (same_new ntp)
      | .non, _ =>
        refine ⟨_, rfl, (by show 2 ≤ sizeLine; decide), fun tp ntp => ⟨_, tp, _, .type "NoneType", [.type "list", .type "tuple"], false, rfl, upd_same, .cons (.ty _) (.cons (.ty _) .nil), .base (.non), any_lt (b := false) (c := false) (kit_ty (by decide +kernel)) (kit_ty (by decide +kernel)) rfl, _, rfl, ?_⟩⟩
        refine iteF ?_
        refine ⟨_, rfl, _, _, .type "NoneType", _, false, rfl, .ty _, .base (.non), kit_ty (by decide +kernel), _, rfl, ?_⟩
        refine iteF ?_
        refine ⟨_, rfl, _, _, .type "NoneType", _, false, rfl, .ty _, .base (.non), kit_ty (by decide +kernel), _, rfl, _, _, .type "NoneType", _, false, rfl, .ty _, .base (.non), kit_ty (by decide +kernel), rfl, ?_⟩
        refine ⟨_, rfl, true, rfl, ?_⟩
        refine iteT ?_
        refine ⟨_, rfl, _, _, .type "NoneType", _, false, rfl, .ty _, .base (.non), kit_ty (by decide +kernel), _, rfl, _, _, .type "NoneType", _, false, rfl, .ty _, .base (.non), kit_ty (by decide +kernel), rfl, true, rfl, ?_⟩
        refine iteT ?_
        refine ⟨_, rfl, _, rfl, rfl, ?_⟩
        rw [bl_self]
        exact k _ (same_new ntp)
    · have hlen : xs.length = ys.length := Paired.length h5
      refine ⟨_, rfl, (by show 2 ≤ sizeLine; decide), fun tp ntp => ?_⟩
      have t3 := same_new (o := .tup [.ty "list", .ty "tuple"]) ntp _ _ h3
      have t4 := same_new (o := .tup [.ty "list", .ty "tuple"]) ntp _ _ h4
      refine ⟨_, tp, _, .type "list", [.type "list", .type "tuple"], true, rfl, upd_same, .cons (.ty _) (.cons (.ty _) .nil), .base (.lst t3), any_lt (b := true) (c := false) (kit_ty (by decide +kernel)) (kit_ty (by decide +kernel)) rfl, _, rfl, ?_⟩
      refine iteT ?_
      refine ⟨_, rfl, _, _, .type "list", _, true, rfl, .ty _, .base (.lst t4), kit_ty (by decide +kernel), _, rfl, _, _, .type "list", _, true, rfl, .ty _, .base (.lst t3), kit_ty (by decide +kernel), rfl, true, rfl, ?_⟩
      refine iteT ?_
      refine ⟨_, rfl, _, _, .type "list", _, false, rfl, .ty _, .base (.lst t4), kit_ty (by decide +kernel), _, rfl, _, _, .type "list", _, false, rfl, .ty _, .base (.lst t3), kit_ty (by decide +kernel), rfl, ?_⟩
      refine ⟨_, rfl, true, rfl, ?_⟩
      refine iteT ?_
      refine ⟨_, rfl, _, xs.length, rfl, Or.inl ⟨_, SqL.of t3, rfl⟩, _, rfl, _, ys.length, rfl, Or.inl ⟨_, SqL.of t4, rfl⟩, rfl, true, by rw [hlen]; exact bl_self _, ?_⟩
      refine iteT ?_
      refine ⟨_, rfl, _, rfl, a, b, xs, ys, rfl, .inl ⟨SqL.of t3, SqL.of t4, fun D hD => ?_⟩⟩
      refine lc_it (walk_zip (xs := xs) (ys := ys) (n := xs.length) (by omega)) (fun i H3 => H3 D = some (.lst ((List.replicate i true).map V.bl)) ∧ Same (upd H tp (.tup [.ty "list", .ty "tuple"])) H3) ?_ ?_ ?_ ?_
      · exact ⟨upd_same, same_new hD⟩
      · rintro i H3 hi ⟨q5, s5⟩
        exact ⟨SqL.of (s5 _ _ t3), SqL.of (s5 _ _ t4)⟩
      · rintro i v H3 H4 hi ⟨q5, s5⟩ ⟨t, x, y, rfl, nt, rfl, ex, ey⟩
        refine ⟨t, [x, y], rfl, SqT.of upd_same, rfl, _, _, rfl, _, _, rfl, rfl, rfl, ?_⟩
        refine ⟨_, rfl, _, rfl, B, x, y, rfl, (paired_get h5 ex ey).to (fun c o _ e => same_new nt _ _ (s5 _ _ (same_new ntp _ _ e))), fun H5 s6 => ?_⟩
        have q6 := s6 _ _ (same_new nt _ _ q5)
        refine ⟨_, q6, ?_, ?_, fun c o e => ?_⟩
        · rw [List.length_map, List.length_replicate]
          exact len_ok (by omega)
        · rw [upd_same, List.replicate_succ', List.map_append]
          rfl
        · rw [upd_ne (ne_of_none e hD)]
          exact s6 _ _ (same_new nt _ _ (s5 _ _ e))
      · rintro H3 ⟨q5, s5⟩
        refine ⟨D, List.replicate xs.length true, rfl, SqL.of q5, ?_⟩
        rw [all_rep]
        exact k _ fun c o e => s5 _ _ (same_new ntp _ _ e)
    · have hlen : xs.length = ys.length := Paired.length h5
      refine ⟨_, rfl, (by show 2 ≤ sizeLine; decide), fun tp ntp => ?_⟩
      have t3 := same_new (o := .tup [.ty "list", .ty "tuple"]) ntp _ _ h3
      have t4 := same_new (o := .tup [.ty "list", .ty "tuple"]) ntp _ _ h4
      refine ⟨_, tp, _, .type "tuple", [.type "list", .type "tuple"], true, rfl, upd_same, .cons (.ty _) (.cons (.ty _) .nil), .base (.tup t3), any_lt (b := false) (c := true) (kit_ty (by decide +kernel)) (kit_ty (by decide +kernel)) rfl, _, rfl, ?_⟩
      refine iteT ?_
      refine ⟨_, rfl, _, _, .type "tuple", _, false, rfl, .ty _, .base (.tup t4), kit_ty (by decide +kernel), _, rfl, _, _, .type "tuple", _, false, rfl, .ty _, .base (.tup t3), kit_ty (by decide +kernel), rfl, true, rfl, ?_⟩
      refine iteT ?_
      refine ⟨_, rfl, _, _, .type "tuple", _, true, rfl, .ty _, .base (.tup t4), kit_ty (by decide +kernel), _, rfl, _, _, .type "tuple", _, true, rfl, .ty _, .base (.tup t3), kit_ty (by decide +kernel), rfl, ?_⟩
      refine ⟨_, rfl, true, rfl, ?_⟩
      refine iteT ?_
      refine ⟨_, rfl, _, xs.length, rfl, Or.inr ⟨_, SqT.of t3, rfl⟩, _, rfl, _, ys.length, rfl, Or.inr ⟨_, SqT.of t4, rfl⟩, rfl, true, by rw [hlen]; exact bl_self _, ?_⟩
      refine iteT ?_
      refine ⟨_, rfl, _, rfl, a, b, xs, ys, rfl, .inr ⟨SqT.of t3, SqT.of t4, fun D hD => ?_⟩⟩
      refine lc_it (walk_zipT (xs := xs) (ys := ys) (n := xs.length) rfl hlen) (fun i H3 => H3 D = some (.lst ((List.replicate i true).map V.bl)) ∧ Same (upd H tp (.tup [.ty "list", .ty "tuple"])) H3) ?_ ?_ ?_ ?_
      · exact ⟨upd_same, same_new hD⟩
      · rintro i H3 hi ⟨q5, s5⟩
        exact ⟨SqT.of (s5 _ _ t3), SqT.of (s5 _ _ t4)⟩
      · rintro i v H3 H4 hi ⟨q5, s5⟩ ⟨t, x, y, rfl, nt, rfl, ex, ey⟩
        refine ⟨t, [x, y], rfl, SqT.of upd_same, rfl, _, _, rfl, _, _, rfl, rfl, rfl, ?_⟩
        refine ⟨_, rfl, _, rfl, B, x, y, rfl, (paired_get h5 ex ey).to (fun c o _ e => same_new nt _ _ (s5 _ _ (same_new ntp _ _ e))), fun H5 s6 => ?_⟩
        have q6 := s6 _ _ (same_new nt _ _ q5)
        refine ⟨_, q6, ?_, ?_, fun c o e => ?_⟩
        · rw [List.length_map, List.length_replicate]
          exact len_ok (by omega)
        · rw [upd_same, List.replicate_succ', List.map_append]
          rfl
        · rw [upd_ne (ne_of_none e hD)]
          exact s6 _ _ (same_new nt _ _ (s5 _ _ e))
      · rintro H3 ⟨q5, s5⟩
        refine ⟨D, List.replicate xs.length true, rfl, SqL.of q5, ?_⟩
        rw [all_rep]
        exact k _ fun c o e => s5 _ _ (same_new ntp _ _ e)
    · refine ⟨_, rfl, (by show 2 ≤ sizeLine; decide), fun tp ntp => ?_⟩
      have s0 := same_new (o := .tup [.ty "list", .ty "tuple"]) ntp
      have t3 := s0 _ _ h3
      have t4 := s0 _ _ h4
      refine ⟨_, tp, _, .type "dict", [.type "list", .type "tuple"], false, rfl, upd_same, .cons (.ty _) (.cons (.ty _) .nil), .base (.dT t3), any_lt (b := false) (c := false) (kit_ty (by decide +kernel)) (kit_ty (by decide +kernel)) rfl, _, rfl, ?_⟩
      refine iteF ?_
      refine ⟨_, rfl, _, _, .type "dict", _, true, rfl, .ty _, .base (.dT t3), kit_ty (by decide +kernel), _, rfl, ?_⟩
      refine iteT ?_
      refine ⟨_, rfl, _, _, .type "dict", _, true, rfl, .ty _, .base (.dT t4), kit_ty (by decide +kernel), true, rfl, ?_⟩
      refine iteT ?_
      refine ⟨_, rfl, a, u, rfl, .inl t3, fun p1 bs n1 k1 => ⟨_, rfl, b, l, rfl, .inl (same_new n1 _ _ t4), fun p2 cs n2 k2 => ?_⟩⟩
      have s1 := same_new (o := .lst (bs.map V.ref)) n1
      have s2 := same_new (o := .lst (cs.map V.ref)) n2
      obtain ⟨j, rfl⟩ : ∃ j, m = j + 2 := ⟨m - 2, by omega⟩
      refine ⟨[], _, _, rfl, .inr (.inl ⟨p1, p2, bs.map V.ref, cs.map V.ref, rfl, rfl, by simp, by simp, s2 _ _ upd_same, upd_same, keys_ex (fun c o e => s2 _ _ (s1 _ _ e)) (fun c o e => s2 _ _ e) h5 k1 k2, by rw [List.length_map, keys_len k1]; exact h6⟩), fun H5 s5 => ?_⟩
      have sA : ∀ c o, H c = some o → H5 c = some o := fun c o e => s5 _ _ (s2 _ _ (s1 _ _ (s0 _ _ e)))
      clear s5 s2 s1 n2 n1 k1 k2 t3 t4 s0
      refine ⟨_, rfl, true, rfl, ?_⟩
      refine iteT ?_
      refine ⟨a, .dT u, sA _ _ h3, trivial, fun od => ?_⟩
      refine ⟨_, rfl, a, od, rfl, .inr ⟨u, upd_same, fun D hD => ?_⟩⟩
      have nDa : D ≠ a := fun z => by
        rw [z, upd_same] at hD
        cases hD
      refine lc_it (walk_keysT (d := a) (o := od) (kvs := u)) (fun i H6 => H6 D = some (.lst ((List.replicate i true).map V.bl)) ∧ Same (upd H5 a (.frz od (.dT u))) H6) ?_ ?_ ?_ ?_
      · exact ⟨upd_same, same_new hD⟩
      · rintro i H6 hi ⟨q6, s6⟩
        exact s6 _ _ upd_same
      · rintro i v H6 H7 hi ⟨q6, s6⟩ ⟨rfl, kk, vv, q, ei, rfl, eq⟩
        obtain ⟨⟨kk2, ww⟩, el, hk, _, hx⟩ := paired_at' h5 ei
        cases hk
        have g1 : valV u kk = some vv := valV_at h8 ei
        have g2 : valV l kk = some ww := valV_at (by rw [← keys_same h5]; exact h8) el
        have hb6 : H7 b = some (.dT l) := s6 _ _ ((upd_ne h0.symm).trans (sA _ _ h4))
        refine ⟨rfl, ?_⟩
        refine ⟨_, rfl, _, rfl, a, vv, rfl, .inr ⟨u, kk, q, .inr ⟨od, s6 _ _ upd_same⟩, rfl, eq, g1.symm⟩, _, rfl, _, rfl, b, ww, rfl, .inr ⟨l, kk, q, .inl hb6, rfl, eq, g2.symm⟩, a :: B, vv, ww, rfl, hx.to (fun c o hc e => ?_), fun H8 s8 => ?_⟩
        · exact s6 _ _ ((upd_ne (fun z => hc (by rw [z]; exact List.mem_cons_self))).trans (sA _ _ e))
        · have q8 := s8 _ _ q6
          refine ⟨_, q8, ?_, ?_, fun c o e => ?_⟩
          · rw [List.length_map, List.length_replicate]
            exact len_ok (by omega)
          · rw [upd_same, List.replicate_succ', List.map_append]
            rfl
          · rw [upd_ne (ne_of_none e hD)]
            exact s8 _ _ (s6 _ _ e)
      · rintro H6 ⟨q6, s6⟩
        refine ⟨s6 _ _ upd_same, D, List.replicate u.length true, rfl, SqL.of ((upd_ne nDa).trans q6), ?_⟩
        rw [all_rep]
        refine k _ fun c o e => ?_
        by_cases ca : c = a
        · rw [ca] at e ⊢
          rw [h3] at e
          cases e
          exact upd_same
        · exact (upd_ne ca).trans (s6 _ _ ((upd_ne ca).trans (sA _ _ e)))
theorem exact_all (F : FnP K "_law_exact" sExact f fd) (T : Nm mg) (T6 : Nm6 mg) (bE : Binds K fd ["_law_mine", "_law_theirs"] []) (kE : PySem.W.keepIn K (.ref f) = true) (gE : mg "_law_exact" = some (.ref f)) : ∀ n : Nat, FnOk P w K mg base CX0 n f fd ["_law_mine", "_law_theirs"] (spExact K n)
  | 0 => ⟨fun _ _ _ _ h => h.elim, fun _ _ _ _ _ _ _ _ _ _ _ _ _ h => h.elim⟩
  | n + 1 => ok_exact F T T6 bE kE gE (exact_all F T T6 bE kE gE n)
end
end Yt

set_option Elab.async false
set_option linter.all false
set_option maxRecDepth 100000
set_option maxHeartbeats 2000000
namespace Yt
open PySem PySem.Spec PyProof.Rows L2
/-! ### list(z), z a text -/
def signsOf (z : Str) : List V := z.cps.toList.map fun c => V.str ⟨#[c]⟩
theorem vals_get : ∀ {l : List V} {its : List Value}, l.length = its.length → (∀ (j : Nat) (x : V) (v : Value), l[j]? = some x → its[j]? = some v → RelV x v) → Vals l its
  | [], [], _, _ => .nil
  | x :: l, v :: its, h, k => .cons (k 0 x v rfl rfl) (vals_get (by simpa using h) fun j y u hy hu => k (j + 1) y u (by simpa using hy) (by simpa using hu))
theorem call_list_text {X : Cx} (calm : X.calm = true) : CallR X (.type "list") (fun xs H Q => ∃ z : Str, xs = [.str z] ∧ z.cps.size ≤ 1000 ∧ ∀ l, H l = none → Q (.ref l) (upd H l (.lst (signsOf z)))) := by
  intro pins s σ H xs us Q I r h
  obtain ⟨z, rfl, few, q⟩ := h
  obtain ⟨u, rfl, rx⟩ := vals1 r
  obtain ⟨t, rfl⟩ := rx
  have hz : z.cps.size ≤ sizeLine := by
    rw [sizeLine_eq]
    omega
  refine PySem.call_list_str (I.ok.hd calm) z t (fun h2 tk acc c keep ho items => ?_) hz
  have len : (signsOf z).length = acc.toList.length := by
    unfold signsOf
    rw [List.length_map, Array.length_toList, Array.length_toList, items.1]
  have vals : Vals (signsOf z) acc.toList := vals_get len fun j x v hx hv => by
    obtain ⟨d, t2, e1, e2⟩ := items.2 j v (by rw [← Array.getElem?_toList]; exact hv)
    unfold signsOf at hx
    rw [List.getElem?_map, Array.getElem?_toList, e1] at hx
    cases Option.some.inj hx
    exact ⟨t2, e2⟩
  refine ⟨.ref s.heap.objs.size, _, I.laid (t' := tk) keep (Nat.le_refl _) (show ObjOk X.prog X.w _ h2 _ (.lst (signsOf z)) from ⟨?_, acc.toList, c, vals, ?_⟩), rfl, q _ (I.hok.fresh (Nat.le_refl _))⟩
  · unfold signsOf
    rw [List.length_map, Array.length_toList]
    exact hz
  · simpa using ho
end Yt

set_option Elab.async false
set_option linter.all false
set_option maxRecDepth 100000
set_option maxHeartbeats 2000000
namespace Yt
open PySem PySem.Spec PyProof.Rows L2
/-! ### words one beside the other -/
theorem str_tl (i j : Str) : (i ++ j).cps.toList = i.cps.toList ++ j.cps.toList := Array.toList_append
theorem nodup_le {α : Type} [DecidableEq α] : ∀ {l D : List α}, l.Nodup → (∀ x ∈ l, x ∈ D) → l.length ≤ D.length
  | [], _, _, _ => Nat.zero_le _
  | x :: l, D, nd, h => by
    have nd' := List.nodup_cons.mp nd
    have hx : x ∈ D := h x List.mem_cons_self
    have := nodup_le (l := l) (D := D.erase x) nd'.2 fun y hy => (List.mem_erase_of_ne (fun (e : y = x) => nd'.1 (by rw [← e]; exact hy))).mpr (h y (List.mem_cons_of_mem _ hy))
    rw [List.length_erase_of_mem hx] at this
    have := List.length_pos_of_mem hx
    rw [List.length_cons]
    omega
/-- a word with one sign changed is a word -/
theorem word_bent {z : Str} {c : Nat} {s : Int} (h : WordOk z) (hc : 97 ≤ c ∧ c ≤ 122) (s0 : 0 ≤ s) (s1 : s < z.length) : WordOk (cutS z none (some s) ++ (⟨#[c]⟩ : Str) ++ cutS z (some (s + 1)) none) := by
  obtain ⟨k, rfl⟩ : ∃ k : Nat, s = k := ⟨s.toNat, (Int.toNat_of_nonneg s0).symm⟩
  have hk : k < z.length := by omega
  have e1 : HT.sIx z.length z.length (some (k : Int)) = k := by
    rw [HT.sIx_nat]
    omega
  have e2 : HT.sIx z.length 0 (some ((k : Int) + 1)) = k + 1 := by
    rw [show ((k : Int) + 1) = ((k + 1 : Nat) : Int) by omega, HT.sIx_nat]
    omega
  have t1 : (cutS z none (some (k : Int))).cps.toList = z.cps.toList.take k := by
    unfold cutS
    rw [e1, HT.sIx_none]
    simp
  have t2 : (cutS z (some ((k : Int) + 1)) none).cps.toList = z.cps.toList.drop (k + 1) := by
    unfold cutS
    rw [e2, HT.sIx_none]
    show (z.cps.toList.drop (k + 1)).take (z.cps.size - (k + 1)) = _
    rw [List.take_of_length_le]
    rw [List.length_drop, Array.length_toList]
    exact Nat.le_refl _
  have tt : (cutS z none (some (k : Int)) ++ (⟨#[c]⟩ : Str) ++ cutS z (some ((k : Int) + 1)) none).cps.toList = z.cps.toList.take k ++ [c] ++ z.cps.toList.drop (k + 1) := by
    rw [str_tl, str_tl, t1, t2]
  have len : (cutS z none (some (k : Int)) ++ (⟨#[c]⟩ : Str) ++ cutS z (some ((k : Int) + 1)) none).length = z.length := by
    show (_ : Array Nat).size = z.cps.size
    rw [← Array.length_toList, tt]
    have hk' : k < z.cps.size := hk
    simp only [List.length_append, List.length_take, List.length_drop, Array.length_toList, List.length_cons, List.length_nil]
    omega
  refine ⟨by rw [len]; exact h.1, fun d hd => ?_⟩
  rw [tt] at hd
  rcases List.mem_append.mp hd with hd | hd
  · rcases List.mem_append.mp hd with hd | hd
    · exact h.2 d (List.mem_of_mem_take hd)
    · rw [List.mem_singleton.mp hd]
      exact hc
  · exact h.2 d (List.mem_of_mem_drop hd)
def sign (c : Nat) : Str := ⟨#[c]⟩
theorem sign_word {c : Nat} (h : 97 ≤ c ∧ c ≤ 122) : WordOk (sign c) := ⟨⟨Nat.le_refl _, by show 1 ≤ 8; decide⟩, fun d hd => by
  have : d ∈ [c] := hd
  rw [List.mem_singleton.mp this]
  exact h⟩
theorem sign_inj {c d : Nat} (h : sign c = sign d) : c = d := by
  have : #[c] = #[d] := congrArg Str.cps h
  simpa using this
/-- some letter is free -/
theorem letter_free {ws : List Str} (h : ws.length < 26) : ∃ c ∈ abc.cps.toList, sign c ∉ ws := by
  by_cases e : ∃ c ∈ abc.cps.toList, sign c ∉ ws
  · exact e
  · exfalso
    have all : ∀ x ∈ abc.cps.toList.map sign, x ∈ ws := fun x hx => by
      obtain ⟨c, hc, rfl⟩ := List.mem_map.mp hx
      by_cases q : sign c ∈ ws
      · exact q
      · exact absurd ⟨c, hc, q⟩ e
    have nd : (abc.cps.toList.map sign).Nodup := by decide +kernel
    have := nodup_le nd all
    rw [List.length_map] at this
    have l26 : abc.cps.toList.length = 26 := by decide +kernel
    omega
theorem inV_str (z : Str) : ∀ ws : List Str, inV (.str z) (ws.map V.str) = decide (z ∈ ws)
  | [] => by simp [inV]
  | y :: ws => by
    have := inV_str z ws
    unfold inV at this ⊢
    rw [List.map_cons, List.any_cons, this]
    show ((y == z) || _) = _
    by_cases e : y = z
    · subst e
      simp
    · have e' : ¬ z = y := fun q => e q.symm
      simp [e, e']
theorem flat_strs' (ys : List Str) : (ys.map V.str).all flatV = true := by
  rw [List.all_map]
  exact List.all_eq_true.mpr fun _ _ => rfl
def spWords : Sp := fun vs H Q _ => ∃ (p : Addr) (f : Nat) (m : Int), vs = [.ref p, .int m] ∧ 1 ≤ m ∧ m ≤ 20 ∧ PurseAt H p (f + 12 + 11 * m.toNat) ∧
  ∀ (L : Addr) (ws : List Str) (H' : Hp), ws.length = m.toNat → ws.Nodup → (∀ z ∈ ws, WordOk z) → H L = none → H' L = some (.lst (ws.map V.str)) → PurseAt H' p f → But p H H' → Q (.ref L) H'
section
variable {P : Program} {w : World} {K : PySem.W.Frag} {mg : Str → Option Value} {base : Heap} {f : Addr} {fd : FuncData}
theorem scWords : FnScope ["_law_purse_here", "_law_many", "_law_base", "_law_near", "_law_spot", "_law_found", "_law_spin", "_law_word_here", "_law_letter"] ["_law_purse_here", "_law_many"] (defScope sWords) := ⟨rfl, rfl, rfl, by decide +kernel, rfl, by decide +kernel, by decide +kernel⟩
theorem ok_words {fD fW : Addr} {fdD fdW : FuncData} (F : FnP K "_law_words" sWords f fd) (T : Nm mg) (T6 : Nm6 mg) (GD : FnOk P w K mg base CX0 2 fD fdD ["_law_purse_here", "_law_many"] spDraw) (bD : Binds K fdD ["_law_purse_here", "_law_many"] []) (kD : PySem.W.keepIn K (.ref fD) = true) (gD : mg "_law_draw" = some (.ref fD))
    (GW : FnOk P w K mg base CX0 3 fW fdW ["_law_purse_here"] spWord) (bW : Binds K fdW ["_law_purse_here"] []) (kW : PySem.W.keepIn K (.ref fW) = true) (gW : mg "_law_word" = some (.ref fW)) :
    FnOk P w K mg base CX0 4 f fd ["_law_purse_here", "_law_many"] spWords := by
  refine F.ok scWords (fun vs H Q E h => ?_) (fun cdv A outer s H vs Q E hr h => ?_)
  · obtain ⟨p, g, m, rfl, _⟩ := h
    rfl
  · obtain ⟨p, g, m, rfl, m1, m2, hP, k⟩ := h
    refine ⟨_, PSs.nox (pss_cons (ps_par (i := 2) (j := 3) rfl scWords.nd rfl rfl (by decide) rfl rfl (pa_cons (pe_call GW hr rfl gW kW bW .nil pass0 (pa_cons (pv 0) pa_nil)) (pa_cons (pe_cmpR op_eq (pe_call GD (hr.mono (by decide)) rfl gD kD bD .nil pass0 (pa_cons (pv 0) (pa_cons pe_int pa_nil))) pe_int (nomark _)) pa_nil)) rfl)
      (pss_cons (ps_asg (pe_tup (pa_cons (pe_call GD (hr.mono (by decide)) rfl gD kD bD .nil pass0 (pa_cons (pv 0) (pa_cons (pe_callB call_len (by rfl) T.len PySem.boot_len (pa_cons (pv 2) pa_nil)) pa_nil))) (pa_cons (pe_lst pa_nil) pa_nil))) (pg_tup rfl (pgs_cons (pg_name (i := 4) scWords.nd rfl (Or.inl rfl)) (pgs_cons (pg_name (i := 5) scWords.nd rfl (Or.inr rfl)) pgs_nil))))
      (pss_cons (ps_for PassesOwn.never rfl (pi_range1 rfl T.range (pa_cons (pv 1) pa_nil)) (pg_name (i := 6) scWords.nd rfl (Or.inl rfl))
        (pss_cons (ps_set (i := 7) scWords.nd rfl (Or.inl rfl) (pe_op op_add_str (pe_op op_add_str (pe_slice sl_str (pv 2) po_none (po_some (pv 4))) (pe_ix ix_str pe_str (pe_call GD (hr.mono (by decide)) rfl gD kD bD .nil pass0 (pa_cons (pv 0) (pa_cons pe_int pa_nil))) (fun _ _ => rfl))) (pe_slice sl_str (pv 2) (po_some (pe_op op_add (pv 4) pe_int)) po_none)))
        (pss_cons (ps_if (pt_not (pt_val (pv 3))) (pss_one (ps_set (i := 7) scWords.nd rfl (Or.inl rfl) (pe_call GW hr rfl gW kW bW .nil pass0 (pa_cons (pv 0) pa_nil)))) pss_nil)
        (pss_cons (ps_if (pt_cmpR op_in_seq (pv 7) (pv 5) (by rfl)) (pss_one (ps_set (i := 7) scWords.nd rfl (Or.inl rfl) (pe_ix ix_list (pe_lc (own := [("_law_letter", 8)]) (g := gName 8) (tt := tTest (tOp (rIn K true) (tVar 8) (tVar 5))) (te := tVar 8) rfl scWords.nd (pi_list (pe_callTy (call_list_text rfl) (by rfl) T6.list (by decide +kernel) (pa_cons pe_str pa_nil))) (blkOk_by (own := [("_law_letter", 8)]) (N := ["_law_purse_here", "_law_many", "_law_base", "_law_near", "_law_spot", "_law_found", "_law_spin", "_law_word_here", "_law_letter"]) (sc := defScope sWords) (by decide +kernel))
            (fun _ _ _ _ _ => pg_name (i := 8) scWords.nd rfl (Or.inl rfl)) (fun _ _ _ _ _ => pts_one (pt_cmpR op_notIn_seq (pv 8) (pv 5) (by rfl))) (fun _ _ _ _ _ => pv 8)) pe_int (fun _ _ => rfl)))) pss_nil)
        (pss_one (ps_expr (pe_bm PySem.F.plainAttrs_list PySem.F.slot_list_append PySem.F.type_list_append mt_append (pv 5) (pa_cons (pv 7) pa_nil))))))))
      (pss_one (ps_ret (pv 5)))))), ?_⟩
    refine ⟨_, rfl, p, g + 2 + 11 * m.toNat, rfl, hP.less (by omega), fun z H1 hz hP1 hB1 => ⟨_, rfl, p, g + 1 + 11 * m.toNat, 3, rfl, hP1.less (by omega), ⟨by decide, by decide⟩, fun r H2 r0 r1 hP2 hB2 => ⟨rfl, _, _, rfl, ?_⟩⟩⟩
    have zl : z.length ≤ sizeLine := by
      have := hz.1
      rw [sizeLine_eq]
      omega
    refine ⟨_, rfl, _, rfl, _, z.length, rfl, ⟨zl, rfl⟩, p, g + 11 * m.toNat, (z.length : Int), rfl, hP2.less (by omega), ⟨by have := hz.1; omega, by have := hz.1; omega⟩, fun s0 H3 s1 s2 hP3 hB3 => ⟨(by show 0 ≤ sizeLine; decide), fun L nL => ⟨(by show 2 ≤ sizeLine; decide), fun tp ntp => ⟨tp, _, rfl, SqT.of upd_same, rfl, _, _, rfl, _, _, rfl, rfl, ?_⟩⟩⟩⟩
    generalize hnear : decide (V.int r = V.int 0) = near
    have B3 : But p H H3 := fun b o n e => hB3 _ _ n (hB2 _ _ n (hB1 _ _ n e))
    have Lp : L ≠ p := fun q => by
      obtain ⟨o, e⟩ := hP3.some
      rw [q, e] at nL
      cases nL
    have LH : H L = none := by
      cases e : H L with
      | none => rfl
      | some o =>
        rw [B3 _ _ Lp e] at nL
        cases nL
    have sL := same_new (o := .lst []) nL
    have sT := same_new (o := .tup [V.int s0, V.ref L]) ntp
    refine ⟨_, rfl, _, rfl, by omega, by omega, for_range (lo := 0) (n := m.toNat) (fun i σ Hc => ∃ (v6 v7 v8 : Option V) (ws : List Str), σ = [some (.ref p), some (.int m), some (.str z), some (.bl near), some (.int s0), some (.ref L), v6, v7, v8] ∧ ws.length = i ∧ ws.Nodup ∧ (∀ y ∈ ws, WordOk y) ∧ Hc L = some (.lst (ws.map V.str)) ∧ PurseAt Hc p (g + 11 * (m.toNat - i)) ∧ But p H Hc)
      ⟨none, none, none, [], rfl, rfl, .nil, fun y hy => (by cases hy), sT _ _ upd_same, ?_, fun b o n e => sT _ _ (sL _ _ (B3 b o n e))⟩ ?_ ?_⟩
    · rw [Nat.sub_zero]
      exact hP3.to fun o e => sT _ _ (sL _ _ e)
    · rintro i σ Hc hi ⟨v6, v7, v8, ws, rfl, hl, hnd, hws, Lc, Pc, Bc⟩
      have ef : g + 11 * (m.toNat - i) = g + 11 * (m.toNat - (i + 1)) + 11 := by omega
      rw [ef] at Pc
      refine ⟨_, rfl, _, rfl, _, rfl, z, rfl, zl, _, rfl, p, g + 11 * (m.toNat - (i + 1)) + 10, 26, rfl, Pc.less (by omega), ⟨by decide, by decide⟩, fun r3 H4 r30 r31 hP4 hB4 => ?_⟩
      obtain ⟨c, hc, hc1⟩ := abc_at r30 r31
      have lz := hz.1
      have cz := cutS_length z none (some s0)
      have cz2 := cutS_length z (some (s0 + 1)) none
      refine ⟨_, _, c, rfl, rfl, (by show 26 ≤ sizeLine; decide), hc, _, _, rfl, rfl, ?_, _, rfl, _, rfl, _, _, rfl, rfl, _, rfl, z, rfl, zl, _, _, rfl, rfl, ?_, ?_⟩
      · show (cutS z none (some s0)).length + 1 ≤ sizeLine
        rw [sizeLine_eq]
        omega
      · show (cutS z none (some s0) ++ (⟨#[c]⟩ : Str)).length + (cutS z (some (s0 + 1)) none).length ≤ sizeLine
        have : (cutS z none (some s0) ++ (⟨#[c]⟩ : Str)).length = (cutS z none (some s0)).length + 1 := by
          show (_ : Array Nat).size = _
          rw [← Array.length_toList, str_tl, List.length_append, Array.length_toList]
          rfl
        rw [this, sizeLine_eq]
        omega
      have hz1 := word_bent hz hc1 s1 (by omega)
      generalize (cutS z none (some s0) ++ (⟨#[c]⟩ : Str) ++ cutS z (some (s0 + 1)) none) = z1 at hz1 ⊢
      have Lc4 := hB4 _ _ Lp Lc
      have Bc4 : But p H H4 := fun b o n e => hB4 _ _ n (Bc b o n e)
      have wlen : (ws.map V.str).length < sizeLine := by
        rw [List.length_map]
        exact len_ok (by omega)
      have last : ∀ (y : Str) (H9 : Hp), WordOk y → y ∉ ws → H9 L = some (.lst (ws.map V.str)) → PurseAt H9 p (g + 11 * (m.toNat - (i + 1))) → But p H H9 →
          (ws ++ [y]).length = i + 1 ∧ (ws ++ [y]).Nodup ∧ (∀ q ∈ ws ++ [y], WordOk q) ∧ (upd H9 L (.lst (ws.map V.str ++ [V.str y]))) L = some (.lst ((ws ++ [y]).map V.str)) ∧ PurseAt (upd H9 L (.lst (ws.map V.str ++ [V.str y]))) p (g + 11 * (m.toNat - (i + 1))) ∧ But p H (upd H9 L (.lst (ws.map V.str ++ [V.str y]))) := by
        intro y H9 hy hn e9 P9 B9
        refine ⟨by rw [List.length_append, hl] <;> rfl, ?_, fun q hq => ?_, by rw [upd_same, List.map_append] <;> rfl, P9.to fun o e => (upd_ne Lp.symm).trans e, fun b o n e => (upd_ne (ne_of_none e LH)).trans (B9 b o n e)⟩
        · refine List.nodup_append.mpr ⟨hnd, by simp, fun a ha b hb e => hn ?_⟩
          rw [← List.mem_singleton.mp hb, ← e]
          exact ha
        · rcases List.mem_append.mp hq with h | h
          · exact hws q h
          · rw [List.mem_singleton.mp h]
            exact hy
      clear Lc Pc Bc
      cases near with
      | true =>
        refine ⟨_, rfl, true, rfl, ?_⟩
        refine iteF ?_
        have Lc := Lc4
        have Bc := Bc4
        have Pc : PurseAt H4 p (g + 11 * (m.toNat - (i + 1))) := hP4.less (by omega)
        refine ⟨_, rfl, _, rfl, L, _, rfl, .inl (SqL.of Lc), rfl, flat_strs' ws, _, rfl, ?_⟩
        show (if inV (V.str z1) (ws.map V.str) = true then _ else _)
        rw [inV_str]
        by_cases hin : z1 ∈ ws
        · rw [decide_eq_true hin]
          refine iteT ?_
          refine ⟨abc, rfl, (by show 26 ≤ 1000; decide), fun l1 nl1 => ?_⟩
          have nl1L : l1 ≠ L := (ne_of_none Lc nl1).symm
          have sl := same_new (o := .lst (signsOf abc)) nl1
          refine ⟨l1, rfl, ⟨_, SqL.of upd_same⟩, fun D nD => ?_⟩
          have sd := same_new (o := .lst []) nD
          refine lc_list (K := K) (a := l1) (xs := signsOf abc) (fun i H6 => H6 D = some (.lst (((abc.cps.toList.take i).filter fun c => decide (sign c ∉ ws)).map fun c => V.str (sign c))) ∧ Same (upd H4 l1 (.lst (signsOf abc))) H6) ?_ ?_ ?_ ?_
          · exact ⟨upd_same, sd⟩
          · rintro i2 H6 hi2 ⟨q6, s6⟩
            exact s6.seq (SqL.of upd_same)
          · rintro i2 x H6 hx ⟨q6, s6⟩
            obtain ⟨c, hc, rfl⟩ : ∃ c, abc.cps.toList[i2]? = some c ∧ V.str (sign c) = x := by
              unfold signsOf at hx
              rw [List.getElem?_map] at hx
              exact Option.map_eq_some_iff.mp hx
            have et : abc.cps.toList.take (i2 + 1) = abc.cps.toList.take i2 ++ [c] := by rw [List.take_add_one, hc] <;> rfl
            have L6 := s6 _ _ (sl _ _ Lc)
            refine ⟨rfl, ?_⟩
            refine ⟨_, rfl, _, rfl, L, _, rfl, .inl (SqL.of L6), rfl, flat_strs' ws, _, rfl, ?_⟩
            show (if (!inV (V.str (sign c)) (ws.map V.str)) = true then _ else _)
            rw [inV_str]
            by_cases hcw : sign c ∈ ws
            · rw [decide_eq_true hcw]
              refine iteF ⟨?_, s6⟩
              rw [et, List.filter_append, List.filter_cons_of_neg (by simpa using hcw), List.filter_nil, List.append_nil]
              exact q6
            · rw [decide_eq_false hcw]
              refine iteT ?_
              refine ⟨_, rfl, _, q6, ?_, ?_, fun b o e => ?_⟩
              · rw [List.length_map]
                have h1 : ((abc.cps.toList.take i2).filter fun c => decide (sign c ∉ ws)).length ≤ (abc.cps.toList.take i2).length := List.length_filter_le _ _
                have h2 : (abc.cps.toList.take i2).length ≤ 26 := by
                  rw [List.length_take]
                  exact Nat.min_le_right _ _
                exact len_ok (by omega)
              · rw [upd_same, et, List.filter_append, List.filter_cons_of_pos (by simpa using hcw), List.filter_nil, List.map_append]
                rfl
              · exact (upd_ne (ne_of_none e nD)).trans (s6 _ _ e)
          · rintro H6 ⟨q6, s6⟩
            have full : (abc.cps.toList.take (signsOf abc).length) = abc.cps.toList := List.take_of_length_le (by unfold signsOf; rw [List.length_map]; exact Nat.le_refl _)
            rw [full] at q6
            obtain ⟨c0, hc0, hc1⟩ := letter_free (ws := ws) (by omega)
            have mem0 : c0 ∈ abc.cps.toList.filter fun c => decide (sign c ∉ ws) := List.mem_filter.mpr ⟨hc0, by simpa using hc1⟩
            have good : ∀ d ∈ abc.cps.toList.filter (fun c => decide (sign c ∉ ws)), WordOk (sign d) ∧ sign d ∉ ws := fun d hd => by
              have hd' := List.mem_filter.mp hd
              refine ⟨sign_word ?_, by simpa using hd'.2⟩
              have hall : ∀ c ∈ abc.cps.toList, 97 ≤ c ∧ c ≤ 122 := by decide +kernel
              exact hall d hd'.1
            generalize (abc.cps.toList.filter fun c => decide (sign c ∉ ws)) = fl at q6 mem0 good
            match fl, mem0, q6, good with
            | d :: fl, _, q6, good =>
              obtain ⟨gd1, gd2⟩ := good d List.mem_cons_self
              refine ⟨D, _, 0, V.str (sign d), rfl, rfl, SqL.of q6, atI_nat (j := 0) rfl, ?_⟩
              have L6 := s6 _ _ (sl _ _ Lc)
              exact ⟨_, rfl, .inl ⟨rfl, _, SqL.of L6⟩, _, rfl, _, _, _, rfl, rfl, L6, wlen, _, _, _, ws ++ [sign d], rfl, last (sign d) H6 gd1 gd2 L6 (Pc.to fun o e => s6 _ _ (sl _ _ e)) (fun b o nb e => s6 _ _ (sl _ _ (Bc b o nb e)))⟩
        · rw [decide_eq_false hin]
          refine iteF ?_
          exact ⟨_, rfl, .inl ⟨rfl, _, SqL.of Lc⟩, _, rfl, _, _, _, rfl, rfl, Lc, wlen, _, _, _, ws ++ [z1], rfl, last z1 H4 hz1 hin Lc Pc Bc⟩
      | false =>
        refine ⟨_, rfl, false, rfl, ?_⟩
        refine iteT ?_
        refine ⟨_, rfl, p, g + 11 * (m.toNat - (i + 1)), rfl, hP4, fun z2 H5 hz2 hP5 hB5 => ?_⟩
        have Lc := hB5 _ _ Lp Lc4
        have Bc : But p H H5 := fun b o n e => hB5 _ _ n (Bc4 b o n e)
        have Pc : PurseAt H5 p (g + 11 * (m.toNat - (i + 1))) := hP5
        have hz1 := hz2
        refine ⟨_, rfl, _, rfl, L, _, rfl, .inl (SqL.of Lc), rfl, flat_strs' ws, _, rfl, ?_⟩
        show (if inV (V.str z2) (ws.map V.str) = true then _ else _)
        rw [inV_str]
        by_cases hin : z2 ∈ ws
        · rw [decide_eq_true hin]
          refine iteT ?_
          refine ⟨abc, rfl, (by show 26 ≤ 1000; decide), fun l1 nl1 => ?_⟩
          have nl1L : l1 ≠ L := (ne_of_none Lc nl1).symm
          have sl := same_new (o := .lst (signsOf abc)) nl1
          refine ⟨l1, rfl, ⟨_, SqL.of upd_same⟩, fun D nD => ?_⟩
          have sd := same_new (o := .lst []) nD
          refine lc_list (K := K) (a := l1) (xs := signsOf abc) (fun i H6 => H6 D = some (.lst (((abc.cps.toList.take i).filter fun c => decide (sign c ∉ ws)).map fun c => V.str (sign c))) ∧ Same (upd H5 l1 (.lst (signsOf abc))) H6) ?_ ?_ ?_ ?_
          · exact ⟨upd_same, sd⟩
          · rintro i2 H6 hi2 ⟨q6, s6⟩
            exact s6.seq (SqL.of upd_same)
          · rintro i2 x H6 hx ⟨q6, s6⟩
            obtain ⟨c, hc, rfl⟩ : ∃ c, abc.cps.toList[i2]? = some c ∧ V.str (sign c) = x := by
              unfold signsOf at hx
              rw [List.getElem?_map] at hx
              exact Option.map_eq_some_iff.mp hx
            have et : abc.cps.toList.take (i2 + 1) = abc.cps.toList.take i2 ++ [c] := by rw [List.take_add_one, hc] <;> rfl
            have L6 := s6 _ _ (sl _ _ Lc)
            refine ⟨rfl, ?_⟩
            refine ⟨_, rfl, _, rfl, L, _, rfl, .inl (SqL.of L6), rfl, flat_strs' ws, _, rfl, ?_⟩
            show (if (!inV (V.str (sign c)) (ws.map V.str)) = true then _ else _)
            rw [inV_str]
            by_cases hcw : sign c ∈ ws
            · rw [decide_eq_true hcw]
              refine iteF ⟨?_, s6⟩
              rw [et, List.filter_append, List.filter_cons_of_neg (by simpa using hcw), List.filter_nil, List.append_nil]
              exact q6
            · rw [decide_eq_false hcw]
              refine iteT ?_
              refine ⟨_, rfl, _, q6, ?_, ?_, fun b o e => ?_⟩
              · rw [List.length_map]
                have h1 : ((abc.cps.toList.take i2).filter fun c => decide (sign c ∉ ws)).length ≤ (abc.cps.toList.take i2).length := List.length_filter_le _ _
                have h2 : (abc.cps.toList.take i2).length ≤ 26 := by
                  rw [List.length_take]
                  exact Nat.min_le_right _ _
                exact len_ok (by omega)
              · rw [upd_same, et, List.filter_append, List.filter_cons_of_pos (by simpa using hcw), List.filter_nil, List.map_append]
                rfl
              · exact (upd_ne (ne_of_none e nD)).trans (s6 _ _ e)
          · rintro H6 ⟨q6, s6⟩
            have full : (abc.cps.toList.take (signsOf abc).length) = abc.cps.toList := List.take_of_length_le (by unfold signsOf; rw [List.length_map]; exact Nat.le_refl _)
            rw [full] at q6
            obtain ⟨c0, hc0, hc1⟩ := letter_free (ws := ws) (by omega)
            have mem0 : c0 ∈ abc.cps.toList.filter fun c => decide (sign c ∉ ws) := List.mem_filter.mpr ⟨hc0, by simpa using hc1⟩
            have good : ∀ d ∈ abc.cps.toList.filter (fun c => decide (sign c ∉ ws)), WordOk (sign d) ∧ sign d ∉ ws := fun d hd => by
              have hd' := List.mem_filter.mp hd
              refine ⟨sign_word ?_, by simpa using hd'.2⟩
              have hall : ∀ c ∈ abc.cps.toList, 97 ≤ c ∧ c ≤ 122 := by decide +kernel
              exact hall d hd'.1
            generalize (abc.cps.toList.filter fun c => decide (sign c ∉ ws)) = fl at q6 mem0 good
            match fl, mem0, q6, good with
            | d :: fl, _, q6, good =>
              obtain ⟨gd1, gd2⟩ := good d List.mem_cons_self
              refine ⟨D, _, 0, V.str (sign d), rfl, rfl, SqL.of q6, atI_nat (j := 0) rfl, ?_⟩
              have L6 := s6 _ _ (sl _ _ Lc)
              exact ⟨_, rfl, .inl ⟨rfl, _, SqL.of L6⟩, _, rfl, _, _, _, rfl, rfl, L6, wlen, _, _, _, ws ++ [sign d], rfl, last (sign d) H6 gd1 gd2 L6 (Pc.to fun o e => s6 _ _ (sl _ _ e)) (fun b o nb e => s6 _ _ (sl _ _ (Bc b o nb e)))⟩
        · rw [decide_eq_false hin]
          refine iteF ?_
          exact ⟨_, rfl, .inl ⟨rfl, _, SqL.of Lc⟩, _, rfl, _, _, _, rfl, rfl, Lc, wlen, _, _, _, ws ++ [z2], rfl, last z2 H5 hz1 hin Lc Pc Bc⟩
    · rintro σ Hc ⟨v6, v7, v8, ws, rfl, hl, hnd, hws, Lc, Pc, Bc⟩
      refine ⟨_, rfl, k L ws Hc hl hnd hws LH Lc ?_ Bc⟩
      rw [Nat.sub_self] at Pc
      exact Pc
end
end Yt

set_option Elab.async false
set_option linter.all false
set_option maxRecDepth 100000
set_option maxHeartbeats 2000000
namespace Yt
open PySem PySem.Spec PyProof.Rows L2
/-! ### marks: words that ascend -/
theorem lt_tot : ∀ a b : List Nat, a ≠ b → ltCps b a = false → ltCps a b = true
  | [], [], h, _ => absurd rfl h
  | [], _ :: _, _, _ => rfl
  | _ :: _, [], _, h => by cases h
  | x :: r, y :: t, h, k => by
    simp only [ltCps, Bool.or_eq_false_iff, Bool.and_eq_false_imp, decide_eq_false_iff_not, beq_iff_eq] at k
    simp only [ltCps, Bool.or_eq_true, Bool.and_eq_true, decide_eq_true_eq, beq_iff_eq]
    by_cases e : x = y
    · subst e
      exact .inr ⟨rfl, lt_tot r t (fun q => h (by rw [q])) (k.2 rfl)⟩
    · exact .inl (by have := k.1; omega)
theorem lt_tr : ∀ {a b c : List Nat}, ltCps a b = true → ltCps b c = true → ltCps a c = true
  | [], [], _, h, _ => by cases h
  | [], _ :: _, [], _, h => by cases h
  | [], _ :: _, _ :: _, _, _ => rfl
  | _ :: _, [], _, h, _ => by cases h
  | _ :: _, _ :: _, [], _, h => by cases h
  | x :: r, y :: t, z :: u, h, k => by
    simp only [ltCps, Bool.or_eq_true, Bool.and_eq_true, decide_eq_true_eq, beq_iff_eq] at h k ⊢
    rcases h with h | ⟨rfl, h⟩
    · rcases k with k | ⟨rfl, k⟩
      · exact .inl (by omega)
      · exact .inl h
    · rcases k with k | ⟨rfl, k⟩
      · exact .inl k
      · exact .inr ⟨rfl, lt_tr h k⟩
theorem lt_irr : ∀ a : List Nat, ltCps a a = false
  | [] => rfl
  | x :: r => by simp [ltCps, lt_irr r]
def Asc (ms : List Str) : Prop := ms.Pairwise fun a b => ltCps a.cps.toList b.cps.toList = true
theorem Asc.nodup {ms : List Str} (h : Asc ms) : ms.Nodup := List.Pairwise.imp (fun {a b} q e => by
  rw [e, lt_irr] at q
  cases q) h
theorem asc_of : ∀ {ms : List Str}, ms.Nodup → sortedS ms = true → Asc ms
  | [], _, _ => .nil
  | p :: l, nd, h => by
    have go : ∀ (l : List Str) (p : Str), (p :: l).Nodup → risingS p l = true → Asc (p :: l) := by
      intro l
      induction l with
      | nil => intro p _ _; exact List.pairwise_singleton _ _
      | cons x r ih =>
        intro p nd h
        have h' := Bool.and_eq_true_iff.mp (show (!ltCps x.cps.toList p.cps.toList && risingS x r) = true from h)
        have nd' := List.nodup_cons.mp nd
        have t := ih x nd'.2 h'.2
        have px : ltCps p.cps.toList x.cps.toList = true := by
          refine lt_tot _ _ (fun e => nd'.1 ?_) (by simpa using h'.1)
          have : p = x := by
            cases p
            cases x
            simpa using e
          rw [this]
          exact List.mem_cons_self
        refine List.pairwise_cons.mpr ⟨fun y hy => ?_, t⟩
        rcases List.mem_cons.mp hy with rfl | hy
        · exact px
        · exact lt_tr px ((List.pairwise_cons.mp t).1 y hy)
    exact go l p nd h
def spMarks : Sp := fun vs H Q _ => ∃ (p : Addr) (f : Nat) (m : Int), vs = [.ref p, .int m] ∧ 1 ≤ m ∧ m ≤ 20 ∧ PurseAt H p (f + 12 + 11 * m.toNat) ∧
  ∀ (L : Addr) (ms : List Str) (H' : Hp), ms.length = m.toNat → Asc ms → (∀ z ∈ ms, WordOk z) → H L = none → H' L = some (.lst (ms.map V.str)) → PurseAt H' p f → But p H H' → Q (.ref L) H'
section
variable {P : Program} {w : World} {K : PySem.W.Frag} {mg : Str → Option Value} {base : Heap} {f : Addr} {fd : FuncData}
theorem scMarks : FnScope ["_law_purse_here", "_law_many"] ["_law_purse_here", "_law_many"] (defScope sMarks) := ⟨rfl, rfl, rfl, by decide +kernel, rfl, by decide +kernel, by decide +kernel⟩
theorem ok_marks {fW : Addr} {fdW : FuncData} (F : FnP K "_law_marks" sMarks f fd) (hso : mg "sorted" = none)
    (GW : FnOk P w K mg base CX0 4 fW fdW ["_law_purse_here", "_law_many"] spWords) (bW : Binds K fdW ["_law_purse_here", "_law_many"] []) (kW : PySem.W.keepIn K (.ref fW) = true) (gW : mg "_law_words" = some (.ref fW)) :
    FnOk P w K mg base CX0 5 f fd ["_law_purse_here", "_law_many"] spMarks := by
  refine F.ok scMarks (fun vs H Q E h => ?_) (fun cdv A outer s H vs Q E hr h => ?_)
  · obtain ⟨p, g, m, rfl, _⟩ := h
    rfl
  · obtain ⟨p, g, m, rfl, m1, m2, hP, k⟩ := h
    refine ⟨_, PSs.nox (pss_one (ps_ret (pe_callB cr_sortedS (by rfl) hso (by decide +kernel) (pa_cons (pe_call GW hr rfl gW kW bW .nil pass0 (pa_cons (pv 0) (pa_cons (pv 1) pa_nil))) pa_nil)))), ?_⟩
    refine ⟨_, rfl, _, rfl, p, g, m, rfl, m1, m2, hP, fun L ws H1 hl nd hw nL hL hP1 hB => ?_⟩
    refine ⟨L, ws, rfl, SqL.of hL, by rw [hl]; omega, fun ys q perm sorted nq => ?_⟩
    have sq := same_new (o := .lst (ys.map V.str)) nq
    have nqH : H q = none := by
      cases e : H q with
      | none => rfl
      | some o =>
        by_cases c : q = p
        · obtain ⟨o2, e2⟩ := hP1.some
          rw [c, e2] at nq
          cases nq
        · rw [hB q o c e] at nq
          cases nq
    exact k q ys _ (by rw [perm.length_eq, hl]) (asc_of (perm.nodup_iff.mpr nd) sorted) (fun z hz => hw z (perm.mem_iff.mp hz)) nqH upd_same (hP1.to fun o e => sq _ _ e) fun b o n e => sq _ _ (hB b o n e)
end
end Yt

set_option Elab.async false
set_option linter.all false
set_option maxRecDepth 100000
set_option maxHeartbeats 2000000
namespace Yt
open PySem PySem.Spec PyProof.Rows L2
/-! ### all rows of three -/
def grow (ms : List Str) (L : List (List Key)) : List (List Key) := L.flatMap fun s => ms.map fun c => s ++ [Sum.inr c]
def growN (ms : List Str) : Nat → List (List Key)
  | 0 => [[]]
  | n + 1 => grow ms (growN ms n)
theorem grow_len (ms : List Str) : ∀ L : List (List Key), (grow ms L).length = L.length * ms.length
  | [] => by simp [grow]
  | s :: L => by
    have := grow_len ms L
    unfold grow at this ⊢
    rw [List.flatMap_cons, List.length_append, this, List.length_map, List.length_cons]
    rw [Nat.add_mul]
    omega
theorem grow_append (ms : List Str) (L M : List (List Key)) : grow ms (L ++ M) = grow ms L ++ grow ms M := by
  unfold grow
  exact List.flatMap_append
theorem growN_len (ms : List Str) (n : Nat) : (growN ms n).length = ms.length ^ n := by
  induction n with
  | zero => rfl
  | succ n ih => rw [growN, grow_len, ih, Nat.pow_succ]
theorem growN_each (ms : List Str) : ∀ (n : Nat) (k : List Key), k ∈ growN ms n → k.length = n
  | 0, k, h => by
    rw [List.mem_singleton.mp h] <;> rfl
  | n + 1, k, h => by
    obtain ⟨s, hs, h2⟩ := List.mem_flatMap.mp h
    obtain ⟨c, _, rfl⟩ := List.mem_map.mp h2
    rw [List.length_append, growN_each ms n s hs] <;> rfl
theorem Paired.snoc {α β : Type} {R : α → β → Prop} {xs : List α} {ys : List β} {x : α} {y : β} (h : Paired R xs ys) (r : R x y) : Paired R (xs ++ [x]) (ys ++ [y]) := by
  induction h with
  | nil => exact .cons r .nil
  | cons h _ ih => exact .cons h ih
def TupAt (H : Hp) (t : Addr) (k : List Key) : Prop := H t = some (.tup (k.map kV))
theorem pair_app {α β : Type} {R : α → β → Prop} : ∀ {xs xs' : List α} {ys ys' : List β}, Paired R xs ys → Paired R xs' ys' → Paired R (xs ++ xs') (ys ++ ys')
  | _, _, _, _, .nil, h => h
  | _, _, _, _, .cons h t, k => .cons h (pair_app t k)
end Yt

set_option Elab.async false
set_option linter.all false
set_option maxRecDepth 100000
set_option maxHeartbeats 2000000
namespace Yt
open PySem PySem.Spec PyProof.Rows L2
abbrev sIsWord : Stmt := top 10
abbrev sAreMarks : Stmt := top 11
abbrev sCheckMarks : Stmt := top 12
structure Nm7 (mg : Str → Option Value) : Prop where
  str : mg "str" = none
theorem ge_a {c : Nat} (h : 97 ≤ c) : (!decide ((⟨#[c]⟩ : Str).cps.toList < ("a" : Str).cps.toList)) = true := by
  have e : ("a" : Str).cps.toList = [97] := by decide +kernel
  rw [e, ← PyProof.Rows.ltCps_eq]
  show (!ltCps [c] [97]) = true
  have h1 : ¬ c < 97 := by omega
  simp [ltCps, h1]
theorem le_z {c : Nat} (h : c ≤ 122) : (!decide (("z" : Str).cps.toList < (⟨#[c]⟩ : Str).cps.toList)) = true := by
  have e : ("z" : Str).cps.toList = [122] := by decide +kernel
  rw [e, ← PyProof.Rows.ltCps_eq]
  show (!ltCps [122] [c]) = true
  have h1 : ¬ 122 < c := by omega
  simp [ltCps, h1]
def spYes (R : Hp → List V → Prop) : Sp := fun vs H Q _ => R H vs ∧ ∀ H', Same H H' → Q (.bl true) H'
section
variable {P : Program} {w : World} {K : PySem.W.Frag} {mg : Str → Option Value} {base : Heap} {f : Addr} {fd : FuncData}
theorem scIsWord : FnScope ["value", "letter"] ["value"] (defScope sIsWord) := ⟨rfl, rfl, rfl, by decide +kernel, rfl, by decide +kernel, by decide +kernel⟩
theorem ok_isword (F : FnP K "is_word" sIsWord f fd) (T : Nm mg) (T6 : Nm6 mg) (T7 : Nm7 mg) : FnOk P w K mg base CX0 1 f fd ["value"] (spYes fun _ vs => ∃ z, vs = [.str z] ∧ WordOk z) := by
  refine F.ok scIsWord (fun vs H Q E h => ?_) (fun cdv A outer s H vs Q E hr h => ?_)
  · obtain ⟨⟨z, rfl, _⟩, _⟩ := h
    rfl
  · obtain ⟨⟨z, rfl, hz⟩, k⟩ := h
    refine ⟨_, PSs.nox (pss_cons (ps_if (PW.pt (pw_or (pt_not (pt_val (pe_callB call_isi (by rfl) T6.isi (by decide +kernel) (pa_cons (pv 0) (pa_cons (pe_bltn (v := .ty "str") (u := .type "str") (by rfl) T7.str (by decide +kernel) rfl) pa_nil)))))
        (pw_or1 (pt_not (pt_chain op_le op_le pe_int (pe_callB call_len (by rfl) T.len PySem.boot_len (pa_cons (pv 0) pa_nil)) pe_int))))) (pss_one (ps_ret pe_bl)) pss_nil)
      (pss_one (ps_ret (pe_callB (cr_all rfl) (by rfl) T6.all (by decide +kernel) (pa_cons (pe_lc (own := [("letter", 1)]) (g := gName 1) (tt := tYes) rfl scIsWord.nd (pi_str (pv 0)) (blkOk_by (own := [("letter", 1)]) (N := ["value", "letter"]) (sc := defScope sIsWord) (by decide +kernel))
            (fun _ _ _ _ _ => pg_name (i := 1) scIsWord.nd rfl (Or.inl rfl)) (fun _ _ _ _ _ => pts_nil) (fun _ _ _ _ _ => pe_chain op_le_str op_le_str pe_str (pv 1) pe_str)) pa_nil))))), ?_⟩
    have zl : z.length ≤ sizeLine := by
      have := hz.1
      rw [sizeLine_eq]
      omega
    refine ⟨_, rfl, _, _, .type "str", _, true, rfl, .ty _, .base (.str _), kit_ty (by decide +kernel), _, rfl, ?_⟩
    refine iteF ?_
    refine ⟨_, rfl, _, z.length, rfl, ⟨zl, rfl⟩, _, _, rfl, rfl, ?_⟩
    refine ⟨true, by show V.bl (decide ((1 : Int) ≤ (z.length : Nat))) = _; rw [decide_eq_true (show (1 : Int) ≤ (z.length : Nat) by have := hz.1; omega)], ?_⟩
    refine iteT ?_
    refine ⟨_, _, rfl, rfl, true, by show V.bl (decide (((z.length : Nat) : Int) ≤ 8)) = _; rw [decide_eq_true (show ((z.length : Nat) : Int) ≤ 8 by have := hz.1; omega)], ?_⟩
    refine iteF ?_
    refine ⟨_, rfl, z, rfl, fun D hD => ?_⟩
    refine lc_it (walk_str (z := z)) (fun i H3 => H3 D = some (.lst ((List.replicate i true).map V.bl)) ∧ Same H H3) ?_ ?_ ?_ ?_
    · exact ⟨upd_same, same_new hD⟩
    · exact fun _ _ _ _ => trivial
    · rintro i v H3 H4 hi ⟨q5, s5⟩ ⟨rfl, c, hc, rfl⟩
      have hc1 : 97 ≤ c ∧ c ≤ 122 := hz.2 c (List.mem_of_getElem? (by rw [Array.getElem?_toList]; exact hc))
      have hi8 : i < 8 := by
        have : z.cps.size ≤ 8 := hz.1.2
        omega
      refine ⟨rfl, ?_⟩
      refine ⟨_, rfl, _, _, rfl, rfl, true, by rw [ge_a hc1.1], ?_⟩
      refine iteT ?_
      refine ⟨_, _, rfl, rfl, ?_⟩
      rw [le_z hc1.2]
      refine ⟨_, q5, ?_, ?_, fun b o e => ?_⟩
      · rw [List.length_map, List.length_replicate]
        exact len_ok (by omega)
      · rw [upd_same, List.replicate_succ', List.map_append]
        rfl
      · exact (upd_ne (ne_of_none e hD)).trans (s5 _ _ e)
    · rintro H3 ⟨q5, s5⟩
      refine ⟨D, List.replicate z.cps.size true, rfl, SqL.of q5, ?_⟩
      rw [all_rep]
      exact k _ s5
theorem scAreMarks : FnScope ["value", "mark", "low", "high"] ["value"] (defScope sAreMarks) := ⟨rfl, rfl, rfl, by decide +kernel, rfl, by decide +kernel, by decide +kernel⟩
theorem cut_one (xs : List V) (h : 1 ≤ xs.length) : cutV xs (some 1) none = xs.drop 1 := by
  have e : HT.sIx xs.length 0 (some (1 : Int)) = 1 := by
    rw [show (1 : Int) = ((1 : Nat) : Int) from rfl, HT.sIx_nat]
    omega
  unfold cutV
  rw [e, HT.sIx_none, List.take_of_length_le (by rw [List.length_drop]; exact Nat.le_refl _)]
/-- marks -/
def MarksOk (ms : List Str) : Prop := 1 ≤ ms.length ∧ ms.length ≤ 5 ∧ Asc ms ∧ ∀ z ∈ ms, WordOk z
theorem ok_aremarks {fW : Addr} {fdW : FuncData} (F : FnP K "are_marks" sAreMarks f fd) (T : Nm mg) (T6 : Nm6 mg) (GW : FnOk P w K mg base CX0 1 fW fdW ["value"] (spYes fun _ vs => ∃ z, vs = [.str z] ∧ WordOk z)) (bW : Binds K fdW ["value"] []) (kW : PySem.W.keepIn K (.ref fW) = true) (gW : mg "is_word" = some (.ref fW)) :
    FnOk P w K mg base CX0 2 f fd ["value"] (spYes fun H vs => ∃ a ms, vs = [.ref a] ∧ H a = some (.lst (ms.map V.str)) ∧ MarksOk ms) := by
  refine F.ok scAreMarks (fun vs H Q E h => ?_) (fun cdv A outer s H vs Q E hr h => ?_)
  · obtain ⟨⟨a, ms, rfl, _⟩, _⟩ := h
    rfl
  · obtain ⟨⟨a, ms, rfl, ha, hm1, hm2, hm3, hm4⟩, k⟩ := h
    refine ⟨_, PSs.nox (pss_cons (ps_if (PW.pt (pw_or (pt_not (pt_val (pe_callB call_isi (by rfl) T6.isi (by decide +kernel) (pa_cons (pv 0) (pa_cons (pe_bltn (v := .ty "list") (u := .type "list") (by rfl) T6.list (by decide +kernel) rfl) pa_nil)))))
        (pw_or1 (pt_not (pt_truth (pv 0) (by intro _; rfl)))))) (pss_one (ps_ret pe_bl)) pss_nil)
      (pss_cons (ps_if (pt_not (pt_val (pe_callB (cr_all rfl) (by rfl) T6.all (by decide +kernel) (pa_cons (pe_lc (own := [("mark", 1)]) (g := gName 1) (tt := tYes) rfl scAreMarks.nd (pi_list (pv 0)) (blkOk_by (own := [("mark", 1)]) (N := ["value", "mark", "low", "high"]) (sc := defScope sAreMarks) (by decide +kernel))
            (fun _ _ _ _ _ => pg_name (i := 1) scAreMarks.nd rfl (Or.inl rfl)) (fun _ _ _ _ _ => pts_nil) (fun _ _ _ _ _ => pe_call GW hr rfl gW kW bW .nil pass0 (pa_cons (pv 1) pa_nil))) pa_nil)))) (pss_one (ps_ret pe_bl)) pss_nil)
      (pss_one (ps_ret (pe_callB (cr_all rfl) (by rfl) T6.all (by decide +kernel) (pa_cons (pe_lc (own := [("low", 2), ("high", 3)]) (g := gTup K 2 (gCons (gName 2) (gCons (gName 3) gNil))) (tt := tYes) rfl scAreMarks.nd (pi_zip rfl T6.zip (pa_cons (pv 0) (pa_cons (pe_slice sl_list (pv 0) (po_some pe_int) po_none) pa_nil))) (blkOk_by (own := [("low", 2), ("high", 3)]) (N := ["value", "mark", "low", "high"]) (sc := defScope sAreMarks) (by decide +kernel))
            (fun _ _ _ _ _ => pg_tup rfl (pgs_cons (pg_name (i := 2) scAreMarks.nd rfl (Or.inl rfl)) (pgs_cons (pg_name (i := 3) scAreMarks.nd rfl (Or.inl rfl)) pgs_nil))) (fun _ _ _ _ _ => pts_nil) (fun _ _ _ _ _ => pe_cmpR op_lt_str (pv 2) (pv 3) (nomark _))) pa_nil)))))), ?_⟩
    refine ⟨_, rfl, _, _, .type "list", _, true, rfl, .ty _, .base (.lst ha), kit_ty (by decide +kernel), _, rfl, ?_⟩
    refine iteF ?_
    refine ⟨_, rfl, true, .inl ⟨ms.map V.str, SqL.of ha, ?_⟩, ?_⟩
    · cases ms with
      | nil => exact absurd hm1 (by decide)
      | cons m ms => rfl
    refine iteF ?_
    refine ⟨_, rfl, a, rfl, ⟨_, SqL.of ha⟩, fun D hD => ?_⟩
    refine lc_list (K := K) (a := a) (xs := ms.map V.str) (fun i H3 => H3 D = some (.lst ((List.replicate i true).map V.bl)) ∧ Same H H3) ?_ ?_ ?_ ?_
    · exact ⟨upd_same, same_new hD⟩
    · rintro i H3 hi ⟨q5, s5⟩
      exact SqL.of (s5 _ _ ha)
    · rintro i x H3 hx ⟨q5, s5⟩
      obtain ⟨z, ez, rfl⟩ : ∃ z, ms[i]? = some z ∧ V.str z = x := by
        rw [List.getElem?_map] at hx
        exact Option.map_eq_some_iff.mp hx
      have hi : i < ms.length := (List.getElem?_eq_some_iff.mp ez).1
      refine ⟨rfl, ?_⟩
      refine ⟨_, rfl, ⟨z, rfl, hm4 z (List.mem_of_getElem? ez)⟩, fun H6 s6 => ?_⟩
      refine ⟨_, s6 _ _ q5, ?_, ?_, fun b o e => ?_⟩
      · rw [List.length_map, List.length_replicate]
        exact len_ok (by omega)
      · rw [upd_same, List.replicate_succ', List.map_append]
        rfl
      · exact (upd_ne (ne_of_none e hD)).trans (s6 _ _ (s5 _ _ e))
    · rintro H3 ⟨q5, s5⟩
      refine ⟨D, List.replicate (ms.map V.str).length true, rfl, SqL.of q5, ?_⟩
      rw [all_rep]
      refine ⟨true, rfl, ?_⟩
      refine iteF ?_
      refine ⟨_, rfl, _, rfl, 1, rfl, a, ms.map V.str, rfl, SqL.of (s5 _ _ ha), fun S nS => ?_⟩
      have sS := same_new (o := .lst (cutV (ms.map V.str) (some 1) none)) nS
      have ha3 := sS _ _ (s5 _ _ ha)
      have hS : (upd H3 S (.lst (cutV (ms.map V.str) (some 1) none))) S = some (.lst ((ms.drop 1).map V.str)) := by
        rw [upd_same, cut_one _ (by rw [List.length_map]; exact hm1), List.map_drop]
      refine ⟨a, S, ms.map V.str, (ms.drop 1).map V.str, rfl, SqL.of ha3, SqL.of hS, fun D2 nD2 => ?_⟩
      refine lc_it (walk_zip (xs := ms.map V.str) (ys := (ms.drop 1).map V.str) (n := ms.length - 1) (by rw [List.length_map, List.length_map, List.length_drop]; omega)) (fun i H5 => H5 D2 = some (.lst ((List.replicate i true).map V.bl)) ∧ Same (upd H3 S (.lst (cutV (ms.map V.str) (some 1) none))) H5) ?_ ?_ ?_ ?_
      · exact ⟨upd_same, same_new nD2⟩
      · rintro i H5 hi ⟨q6, s6⟩
        exact ⟨SqL.of (s6 _ _ ha3), SqL.of (s6 _ _ hS)⟩
      · rintro i v H5 H6 hi ⟨q6, s6⟩ ⟨t, x, y, rfl, nt, rfl, ex, ey⟩
        obtain ⟨x1, e1, rfl⟩ : ∃ z, ms[i]? = some z ∧ V.str z = x := by
          have ex : (ms.map V.str)[i]? = some x := ex
          rw [List.getElem?_map] at ex
          exact Option.map_eq_some_iff.mp ex
        obtain ⟨y1, e2, rfl⟩ : ∃ z, ms[i + 1]? = some z ∧ V.str z = y := by
          have ey : ((ms.drop 1).map V.str)[i]? = some y := ey
          rw [List.getElem?_map, List.getElem?_drop, Nat.add_comm] at ey
          exact Option.map_eq_some_iff.mp ey
        have lt : ltCps x1.cps.toList y1.cps.toList = true := by
          obtain ⟨h1, g1⟩ := List.getElem?_eq_some_iff.mp e1
          obtain ⟨h2, g2⟩ := List.getElem?_eq_some_iff.mp e2
          have := List.pairwise_iff_getElem.mp hm3 i (i + 1) h1 h2 (Nat.lt_succ_self _)
          rwa [g1, g2] at this
        refine ⟨t, [.str x1, .str y1], rfl, SqT.of upd_same, rfl, _, _, rfl, _, _, rfl, rfl, rfl, ?_⟩
        refine ⟨_, rfl, _, rfl, _, _, rfl, rfl, ?_⟩
        rw [PyProof.Rows.ltCps_eq] at lt
        rw [lt]
        have q7 := same_new (o := .tup [V.str x1, V.str y1]) nt _ _ q6
        refine ⟨_, q7, ?_, ?_, fun b o e => ?_⟩
        · rw [List.length_map, List.length_replicate]
          exact len_ok (by omega)
        · rw [upd_same, List.replicate_succ', List.map_append]
          rfl
        · exact (upd_ne (ne_of_none e nD2)).trans (same_new nt _ _ (s6 _ _ e))
      · rintro H5 ⟨q6, s6⟩
        refine ⟨D2, List.replicate (ms.length - 1) true, rfl, SqL.of q6, ?_⟩
        rw [all_rep]
        exact k _ fun b o e => s6 _ _ (sS _ _ (s5 _ _ e))
end
end Yt

set_option Elab.async false
set_option linter.all false
set_option maxRecDepth 100000
set_option maxHeartbeats 2000000
namespace Yt
open PySem PySem.Spec PyProof.Rows L2
abbrev sIsCount : Stmt := top 9
def spNon (R : Hp → List V → Prop) : Sp := fun vs H Q _ => R H vs ∧ ∀ H', Same H H' → Q .non H'
section
variable {P : Program} {w : World} {K : PySem.W.Frag} {mg : Str → Option Value} {base : Heap} {f : Addr} {fd : FuncData}
theorem scIsCount : FnScope ["value"] ["value"] (defScope sIsCount) := ⟨rfl, rfl, rfl, by decide +kernel, rfl, by decide +kernel, by decide +kernel⟩
theorem ok_iscount (F : FnP K "is_count" sIsCount f fd) (T : Nm mg) (T6 : Nm6 mg) : FnOk P w K mg base CX0 1 f fd ["value"] (spYes fun _ vs => ∃ n : Int, vs = [.int n] ∧ 0 ≤ n) := by
  refine F.ok scIsCount (fun vs H Q E h => ?_) (fun cdv A outer s H vs Q E hr h => ?_)
  · obtain ⟨⟨n, rfl, _⟩, _⟩ := h
    rfl
  · obtain ⟨⟨n, rfl, hn⟩, k⟩ := h
    refine ⟨_, PSs.nox (pss_one (ps_ret (pe_and (pe_callB call_isi (by rfl) T6.isi (by decide +kernel) (pa_cons (pv 0) (pa_cons (pe_bltn (v := .ty "int") (u := .type "int") (by rfl) T.int (by decide +kernel) rfl) pa_nil)))
      (pe_and (pe_not (pe_callB call_isi (by rfl) T6.isi (by decide +kernel) (pa_cons (pv 0) (pa_cons (pe_bltn (v := .ty "bool") (u := .type "bool") (by rfl) T6.bool (by decide +kernel) rfl) pa_nil)))) (pe_one (pe_cmpR op_ge (pv 0) pe_int (nomark _))))))), ?_⟩
    refine ⟨_, rfl, _, _, .type "int", _, true, rfl, .ty _, .base (.int _), kit_ty (by decide +kernel), true, rfl, ?_⟩
    refine iteT ?_
    refine ⟨_, rfl, _, _, .type "int", _, false, rfl, .ty _, .base (.int _), kit_ty (by decide +kernel), _, rfl, true, rfl, ?_⟩
    refine iteT ?_
    refine ⟨_, rfl, _, _, rfl, rfl, ?_⟩
    show Q (.bl (decide (n ≥ 0))) H
    rw [decide_eq_true (show n ≥ 0 from hn)]
    exact k H fun _ _ e => e
theorem scCheckMarks : FnScope ["marks"] ["marks"] (defScope sCheckMarks) := ⟨rfl, rfl, rfl, by decide +kernel, rfl, by decide +kernel, by decide +kernel⟩
theorem ok_checkmarks {fA : Addr} {fdA : FuncData} (F : FnP K "check_marks" sCheckMarks f fd) (GA : FnOk P w K mg base CX0 2 fA fdA ["value"] (spYes fun H vs => ∃ a ms, vs = [.ref a] ∧ H a = some (.lst (ms.map V.str)) ∧ MarksOk ms)) (bA : Binds K fdA ["value"] []) (kA : PySem.W.keepIn K (.ref fA) = true) (gA : mg "are_marks" = some (.ref fA)) :
    FnOk P w K mg base CX0 3 f fd ["marks"] (spNon fun H vs => ∃ a ms, vs = [.ref a] ∧ H a = some (.lst (ms.map V.str)) ∧ MarksOk ms) := by
  refine F.ok scCheckMarks (fun vs H Q E h => ?_) (fun cdv A outer s H vs Q E hr h => ?_)
  · obtain ⟨⟨a, ms, rfl, _⟩, _⟩ := h
    rfl
  · obtain ⟨⟨a, ms, rfl, ha, hm⟩, k⟩ := h
    refine ⟨_, PSs.nox (pss_one (ps_if (pt_not (pt_val (pe_call GA hr rfl gA kA bA .nil pass0 (pa_cons (pv 0) pa_nil)))) (pss_one ps_never) pss_nil)), ?_⟩
    refine ⟨_, rfl, ⟨a, ms, rfl, ha, hm⟩, fun H1 s1 => ⟨true, rfl, ?_⟩⟩
    refine iteF ?_
    exact k H1 s1
theorem grow_nodup {ms : List Str} (hm : ms.Nodup) {L : List (List Key)} (hL : L.Nodup) : (grow ms L).Nodup := by
  unfold grow
  refine List.pairwise_flatMap.mpr ⟨fun s _ => ?_, List.Pairwise.imp (fun {s t} ne x hx y hy e => ?_) hL⟩
  · refine List.pairwise_map.mpr (List.Pairwise.imp (fun {c d} ne e => ne ?_) hm)
    have := List.append_cancel_left e
    simpa using this
  · obtain ⟨c, _, rfl⟩ := List.mem_map.mp hx
    obtain ⟨d, _, rfl⟩ := List.mem_map.mp hy
    exact ne (List.append_inj' e rfl).1
theorem growN_nodup {ms : List Str} (hm : ms.Nodup) : ∀ n, (growN ms n).Nodup
  | 0 => List.pairwise_singleton _ _
  | n + 1 => grow_nodup hm (growN_nodup hm n)
/-- a way in the heap: what it gives of each row of three, in their order -/
def wayOf (ms : List Str) (g : List Key → V) : List (List Key × V) := (growN ms 3).map fun k => (k, g k)
end
end Yt

set_option Elab.async false
set_option linter.all false
set_option maxRecDepth 100000
set_option maxHeartbeats 2000000
namespace Yt
open PySem PySem.Spec PyProof.Rows L2
/-! ### tables of a set as wide as they come: what a search meets -/
/-- every place is met from every one within a round -/
def Round (m : Nat) : Prop := ∀ i j, i ≤ m → j ≤ m → ∃ n, n ≤ m ∧ lcgI m i n = j
def orb (m : Nat) : Nat → Nat → List Nat
  | 0, _ => []
  | n + 1, x => x :: orb m n ((x * 5 + 1) % (m + 1))
theorem lcg_front (m x : Nat) : ∀ n, lcgI m ((x * 5 + 1) % (m + 1)) n = lcgI m x (n + 1)
  | 0 => rfl
  | n + 1 => by
    show (lcgI m ((x * 5 + 1) % (m + 1)) n * 5 + 1) % (m + 1) = (lcgI m x (n + 1) * 5 + 1) % (m + 1)
    rw [lcg_front m x n]
theorem orb_in (m : Nat) : ∀ n x y, y ∈ orb m n x → ∃ b, b < n ∧ lcgI m x b = y
  | 0, _, _, h => nomatch h
  | n + 1, x, y, h => by
    rcases List.mem_cons.mp h with rfl | h
    · exact ⟨0, Nat.succ_pos n, rfl⟩
    · obtain ⟨b, hb, e⟩ := orb_in m n _ y h
      exact ⟨b + 1, Nat.succ_lt_succ hb, by rw [← lcg_front]; exact e⟩
theorem lcg_zero (m : Nat) (b : Nat) : lcgI m 0 b = lcgN m b := by
  have := lcgN_add m 0 b
  rwa [Nat.zero_add] at this
theorem orb511 : ((List.range 512).all fun j => (orb 511 512 0).contains j) = true := by decide +kernel
theorem back511 : (orb 511 513 0).getLast? = some 0 := by decide +kernel
theorem orb_last (m : Nat) : ∀ n x, (orb m (n + 1) x).getLast? = some (lcgI m x n)
  | 0, x => rfl
  | n + 1, x => by
    show (x :: orb m (n + 1) ((x * 5 + 1) % (m + 1))).getLast? = _
    rw [List.getLast?_cons, orb_last m n, ← lcg_front]
    rfl
theorem round511 : Round 511 := by
  have all : ∀ j, j ≤ 511 → ∃ b, b ≤ 511 ∧ lcgN 511 b = j := fun j hj => by
    have h := List.all_eq_true.mp orb511 j (List.mem_range.mpr (by omega))
    obtain ⟨b, hb, e⟩ := orb_in 511 512 0 j (List.contains_iff_mem.mp h)
    exact ⟨b, by omega, by rw [← lcg_zero]; exact e⟩
  have again : ∀ n, lcgN 511 (512 + n) = lcgN 511 n := by
    intro n
    induction n with
    | zero =>
      have := orb_last 511 512 0
      rw [back511] at this
      show lcgN 511 512 = 0
      rw [← lcg_zero]
      exact (Option.some.inj this).symm
    | succ n ih =>
      show (lcgN 511 (512 + n) * 5 + 1) % (511 + 1) = (lcgN 511 n * 5 + 1) % (511 + 1)
      rw [ih]
  intro i j hi hj
  obtain ⟨u, hu, rfl⟩ := all i hi
  obtain ⟨v, hv, rfl⟩ := all j hj
  by_cases c : u ≤ v
  · exact ⟨v - u, by omega, by rw [lcgN_add]; congr 1; omega⟩
  · refine ⟨512 + v - u, by omega, ?_⟩
    rw [lcgN_add, show u + (512 + v - u) = 512 + v by omega, again]
theorem round7 : Round 7 := fun _ _ a b => lcgI_all (.inl rfl) a b
theorem round31 : Round 31 := fun _ _ a b => lcgI_all (.inr (.inl rfl)) a b
theorem round127 : Round 127 := fun _ _ a b => lcgI_all (.inr (.inr rfl)) a b
theorem starts {m : Nat} (R : Round m) (h : Int) {j : Nat} (hj : j ≤ m) : ∃ n, n ≤ m + 12 ∧ runI m (SetTable.bits h) n = j := by
  obtain ⟨n, hn, e⟩ := R _ j (runI_le m (SetTable.bits h) 12) hj
  refine ⟨12 + n, by omega, ?_⟩
  rw [runI_tail (bits_lt h)]
  exact e
theorem met {m : Nat} (R : Round m) (h : Int) {j : Nat} (hj : j ≤ m) : ∃ n, n < 10 * SetTable.turns m ∧ way m h n = j := by
  obtain ⟨a, ha, e⟩ := starts R h hj
  obtain ⟨b, hb, f⟩ := run_nth m (SetTable.bits h) a
  refine ⟨b, ?_, ?_⟩
  · unfold SetTable.turns
    omega
  · show (nth m (runAt m (SetTable.bits h % (m + 1)) (SetTable.bits h)) b).j = j
    rw [f]
    exact e
theorem way_in_ {m : Nat} (h : Int) (n : Nat) : way m h n ≤ m := by
  have start : SetTable.bits h % (m + 1) ≤ m := Nat.lt_succ_iff.mp (Nat.mod_lt _ m.succ_pos)
  obtain ⟨b1, b2, _⟩ := runEnd_bd start
  have := nth_in (m := m) n (runAt m (SetTable.bits h % (m + 1)) (SetTable.bits h)) (by
    show SetTable.bits h % (m + 1) + (SetTable.runEnd m (SetTable.bits h % (m + 1)) - SetTable.bits h % (m + 1)) ≤ m
    omega)
  exact Nat.le_trans (Nat.le_add_right _ _) this
/-- where things of these hashes sit in a table without dead places -/
structure Seats (t : SetTable) (hs : List Int) : Prop where
  up : Ris t.place.toList
  none : t.dummies = #[]
  many : t.place.toList.length = hs.length
  round : Round t.mask
  within : ∀ j ∈ t.place.toList, j ≤ t.mask
  path : ∀ {i : Nat} {h : Int} {j : Nat}, hs[i]? = some h → t.place.toList[i]? = some j → ∃ n, way t.mask h n = j ∧ ∀ c, c < n → way t.mask h c ∈ t.place.toList
theorem Seats.free {t : SetTable} {hs : List Int} (S : Seats t hs) (room : hs.length ≤ t.mask) (h : Int) : ∃ n, n < 10 * SetTable.turns t.mask ∧ way t.mask h n ∉ t.place.toList ∧ ∀ c, c < n → way t.mask h c ∈ t.place.toList := by
  obtain ⟨j, hj, out⟩ := st_missing t.place.toList (t.mask + 1) (by rw [S.many]; omega)
  obtain ⟨n, hn, e⟩ := met S.round h (show j ≤ t.mask by omega)
  obtain ⟨k, k1, k2, k3⟩ := st_least (p := fun c => way t.mask h c ∉ t.place.toList) n (by rw [e]; exact out)
  exact ⟨k, by omega, k2, fun c hc => Classical.byContradiction (k3 c hc)⟩
theorem Seats.ahead {t : SetTable} {hs : List Int} (S : Seats t hs) {h : Int} {n i j : Nat} (out : way t.mask h n ∉ t.place.toList) (hi : hs[i]? = some h) (hj : t.place.toList[i]? = some j) : ∃ c, c < n ∧ way t.mask h c = j := by
  obtain ⟨c, e, full⟩ := S.path hi hj
  refine ⟨c, ?_, e⟩
  rcases Nat.lt_trichotomy c n with z | rfl | z
  · exact z
  · exact absurd (e ▸ List.mem_of_getElem? hj) out
  · exact absurd (full n z) out
/-- one more, at the first place that is free for it -/
theorem Seats.more {t : SetTable} {hs : List Int} (S : Seats t hs) {h : Int} {n : Nat} (out : way t.mask h n ∉ t.place.toList) (full : ∀ c, c < n → way t.mask h c ∈ t.place.toList) :
    SetTable.below t.place (way t.mask h n) ≤ hs.length ∧ Seats (t.put (way t.mask h n)).1 (hs.take (SetTable.below t.place (way t.mask h n)) ++ h :: hs.drop (SetTable.below t.place (way t.mask h n))) ∧ (t.put (way t.mask h n)).1.fill = hs.length + 1 := by
  generalize ej : way t.mask h n = j at out
  have b := (below_cut S.up j).1
  have bp : SetTable.below t.place j ≤ t.place.toList.length := by rwa [Array.length_toList]
  have bh : SetTable.below t.place j ≤ hs.length := by rwa [← S.many]
  have pl := put_place t j
  have keep : ∀ {x}, x ∈ t.place.toList → x ∈ (t.put j).1.place.toList := fun hx => by
    rw [pl]
    exact mem_ins.mpr (.inr hx)
  have len : (t.put j).1.place.toList.length = hs.length + 1 := by rw [pl, len_ins _ bp, S.many]
  refine ⟨bh, ⟨ris_insert S.up (fun e => out (by rw [← Array.getElem?_toList] at e; exact List.mem_of_getElem? e)), put_dm S.none j, by rw [len, len_ins _ bh], S.round, fun x hx => ?_, fun {i h1 j1} hi hj => ?_⟩, ?_⟩
  · rw [pl] at hx
    rcases mem_ins.mp hx with rfl | hx
    · rw [← ej]
      exact way_in_ h n
    · exact S.within x hx
  · rw [tins_get _ bh] at hi
    rw [pl, tins_get _ bp] at hj
    have old : ∀ {i'}, hs[i']? = some h1 → t.place.toList[i']? = some j1 → ∃ c, way t.mask h1 c = j1 ∧ ∀ d, d < c → way t.mask h1 d ∈ (t.put j).1.place.toList := fun a b => by
      obtain ⟨c, e, f⟩ := S.path a b
      exact ⟨c, e, fun d hd => keep (f d hd)⟩
    split at hi
    · rename_i z
      rw [if_pos z] at hj
      exact old hi hj
    · rename_i z
      rw [if_neg z] at hj
      split at hi
      · rename_i y
        rw [if_pos y] at hj
        cases hi
        cases hj
        exact ⟨n, ej, fun d hd => keep (full d hd)⟩
      · rename_i y
        rw [if_neg y] at hj
        exact old hi hj
  · show (t.put j).1.place.size + (t.put j).1.dummies.size = _
    rw [← Array.length_toList, len, put_dm S.none j]
    rfl
end Yt

set_option Elab.async false
set_option linter.all false
set_option maxRecDepth 100000
set_option maxHeartbeats 2000000
namespace Yt
open PySem PySem.Spec PyProof.Rows L2
/-! ### a table laid anew -/
structure Owners (m : Nat) (hs : List Int) (ow : Array (Option Nat)) : Prop where
  size : ow.size = m + 1
  sits : ∀ {j k : Nat}, j ≤ m → oAt ow j = some k → ∃ h n, hs[k]? = some h ∧ way m h n = j ∧ ∀ c, c < n → oAt ow (way m h c) ≠ none
  each : ∀ {k : Nat}, k < hs.length → ∃ j, j ≤ m ∧ oAt ow j = some k
  used : ∃ ps : List Nat, ps.length = hs.length ∧ ∀ j, j ≤ m → oAt ow j ≠ none → j ∈ ps
theorem Owners.none (m : Nat) : Owners m [] (Array.replicate (m + 1) none) := by
  refine ⟨Array.size_replicate, fun hj e => ?_, fun hk => absurd hk (Nat.not_lt_zero _), [], rfl, fun j hj ne => absurd (oAt_init hj) ne⟩
  rw [oAt_init hj] at e
  cases e
theorem seat_free {m : Nat} (R : Round m) (ow : Array (Option Nat)) (h : Int) {j : Nat} (hj : j ≤ m) (e : oAt ow j = none) :
    ∃ n, SetTable.layClean.free m ow (SetTable.turns m) (SetTable.bits h % (m + 1)) (SetTable.bits h) = some (way m h n) ∧ oAt ow (way m h n) = none ∧ ∀ c, c < n → oAt ow (way m h c) ≠ none := by
  obtain ⟨u, hu, eu⟩ := starts R h hj
  have there : way m h (off m (SetTable.bits h % (m + 1)) (SetTable.bits h) u) = j := by
    have q := congrArg SetTable.Probe.j (nth_off m u (SetTable.bits h % (m + 1)) (SetTable.bits h))
    rw [itL_run] at q
    exact q.trans eu
  obtain ⟨n, n1, n2, n3⟩ := st_least (p := fun c => oAt ow (way m h c) = .none) _ (by rw [there]; exact e)
  refine ⟨n, free_spec m ow _ u _ _ n (by unfold SetTable.turns; omega) n1 (fun c hc => ?_) (by show (oAt ow (way m h n)).isNone = true; rw [n2] <;> rfl), n2, n3⟩
  show (oAt ow (way m h c)).isNone = false
  cases q : oAt ow (way m h c) with
  | none => exact absurd q (n3 c hc)
  | some _ => rfl
theorem Owners.one {m : Nat} {hs : List Int} {ow : Array (Option Nat)} (W : Owners m hs ow) (R : Round m) (room : hs.length ≤ m) (h : Int) :
    ∃ j, SetTable.layClean.free m ow (SetTable.turns m) (SetTable.bits h % (m + 1)) (SetTable.bits h) = some j ∧ Owners m (hs ++ [h]) (ow.setIfInBounds j (some hs.length)) := by
  obtain ⟨ps, lps, inps⟩ := W.used
  obtain ⟨j0, lt0, out0⟩ := st_missing ps (m + 1) (by omega)
  have free0 : oAt ow j0 = .none := Classical.byContradiction fun z => out0 (inps j0 (by omega) z)
  obtain ⟨n, f1, f2, f3⟩ := seat_free R ow h (show j0 ≤ m by omega) free0
  have le := way_in_ (m := m) h n
  have inb : way m h n < ow.size := by
    rw [W.size]
    omega
  have self := oAt_set_self (some hs.length) inb
  refine ⟨_, f1, ?_⟩
  generalize ej : way m h n = j at f2 le inb self
  have still : ∀ {i : Nat}, oAt ow i ≠ .none → oAt (ow.setIfInBounds j (some hs.length)) i ≠ .none := fun {i} ne => by
    by_cases c : i = j
    · rw [c, self]
      exact fun z => nomatch z
    · rwa [oAt_set_ne _ c]
  refine ⟨by rw [Array.size_setIfInBounds, W.size], fun {i k} hi e => ?_, fun {k} hk => ?_, j :: ps, by rw [List.length_cons, List.length_append, lps] <;> rfl, fun i hi ne => ?_⟩
  · by_cases c : i = j
    · rw [c, self] at e
      cases e
      exact ⟨h, n, List.getElem?_concat_length, ej.trans c.symm, fun d hd => still (f3 d hd)⟩
    · rw [oAt_set_ne _ c] at e
      obtain ⟨h', n', a1, a2, a3⟩ := W.sits hi e
      exact ⟨h', n', by rw [List.getElem?_append_left (List.getElem?_eq_some_iff.mp a1).1, a1], a2, fun d hd => still (a3 d hd)⟩
  · rw [List.length_append] at hk
    by_cases c : k = hs.length
    · exact ⟨j, le, by rw [c, self]⟩
    · obtain ⟨i, hi, e⟩ := W.each (k := k) (by simp only [List.length_singleton] at hk; omega)
      refine ⟨i, hi, ?_⟩
      rw [oAt_set_ne _ (fun z => by rw [z, f2] at e; cases e), e]
  · by_cases c : i = j
    · rw [c]
      exact List.mem_cons_self
    · rw [oAt_set_ne _ c] at ne
      exact List.mem_cons_of_mem _ (inps i hi ne)
theorem owners_fold {m : Nat} (R : Round m) : ∀ (rest hs : List Int) (ow : Array (Option Nat)), Owners m hs ow → hs.length + rest.length ≤ m →
    ∃ ow', rest.foldl (stepF m) (some (ow, hs.length)) = some (ow', hs.length + rest.length) ∧ Owners m (hs ++ rest) ow'
  | [], hs, ow, W, _ => ⟨ow, rfl, by rwa [List.append_nil]⟩
  | h :: rest, hs, ow, W, le => by
    rw [List.length_cons] at le
    obtain ⟨j, e, W1⟩ := W.one R (by omega) h
    obtain ⟨ow', f, W2⟩ := owners_fold R rest (hs ++ [h]) _ W1 (by rw [List.length_append, List.length_singleton]; omega)
    refine ⟨ow', ?_, by rwa [List.append_assoc] at W2⟩
    rw [List.foldl_cons, stepF_some e]
    rw [List.length_append, List.length_singleton] at f
    rw [f, List.length_cons]
    congr 2
    omega
theorem owners_all {m : Nat} (R : Round m) {hs : Array Int} (le : hs.size ≤ m) : ∃ ow, SetTable.layClean m hs = some ow ∧ Owners m hs.toList ow := by
  obtain ⟨ow, f, W⟩ := owners_fold R hs.toList [] _ (Owners.none m) (by show 0 + hs.toList.length ≤ m; rw [Array.length_toList]; omega)
  refine ⟨ow, ?_, W⟩
  rw [layClean_eq]
  have f : hs.toList.foldl (stepF m) (some (Array.replicate (m + 1) .none, 0)) = _ := f
  rw [f]
  rfl
/-- the new order, and where all sit then -/
theorem laid_anew (t : SetTable) {hs : Array Int} {want M : Nat} (eM : SetTable.sizeAbove want - 1 = M) (R : Round M) (le : hs.size ≤ M) :
    ∃ t' order, t.relaid hs want = some (t', order) ∧ order.toList.Perm (List.range hs.size) ∧ Seats t' (order.toList.map fun i => hs.getD i 0) ∧ t'.mask = M ∧ t'.led = t.led := by
  obtain ⟨ow, e, W⟩ := owners_all R le
  obtain ⟨up, sub⟩ := ris_live (fun j => ow.getD j none) (List.range (M + 1)) (show (List.range (M + 1)).Pairwise (· < ·) from List.pairwise_lt_range)
  have up : Ris ((liveOf M ow).map (·.1)) := up
  have sub : ∀ x ∈ (liveOf M ow).map (·.1), x ∈ List.range (M + 1) := sub
  have n1 : (liveOf M ow).length ≤ hs.size := by
    obtain ⟨ps, lps, inps⟩ := W.used
    have := nat_nodup_len ((liveOf M ow).map (·.1)) ps (List.Pairwise.imp (fun h => Nat.ne_of_lt h) (show ((liveOf M ow).map (·.1)).Pairwise (· < ·) from up)) fun j hj => by
      obtain ⟨⟨j', k⟩, hm, rfl⟩ := List.mem_map.mp hj
      have q := (mem_live W.size).mp hm
      exact inps _ q.1 (by rw [q.2]; exact fun z => nomatch z)
    rwa [List.length_map, lps, Array.length_toList] at this
  have cov : ∀ k, k < hs.size → k ∈ (liveOf M ow).map (·.2) := fun k hk => by
    obtain ⟨j, hj, ej⟩ := W.each (k := k) (by rwa [Array.length_toList])
    exact List.mem_map.mpr ⟨(j, k), (mem_live W.size).mpr ⟨hj, ej⟩, rfl⟩
  have n2 : hs.size ≤ (liveOf M ow).length := by
    have := nat_nodup_len (List.range hs.size) ((liveOf M ow).map (·.2)) List.nodup_range fun k hk => cov k (List.mem_range.mp hk)
    rwa [List.length_range, List.length_map] at this
  refine ⟨tabOf t M ow, ((liveOf M ow).map (·.2)).toArray, by rw [relaid_eq, eM, e] <;> rfl, perm_range _ _ (by rw [List.toList_toArray, List.length_map]; omega) cov, ⟨up, rfl, ?_, R, fun j hj => ?_, fun {i h j} hi hj => ?_⟩, rfl, rfl⟩
  · show ((liveOf M ow).map (·.1)).length = (((liveOf M ow).map (·.2)).map _).length
    rw [List.length_map, List.length_map, List.length_map]
  · exact Nat.lt_succ_iff.mp (List.mem_range.mp (sub j hj))
  · have hj : ((liveOf M ow).map (·.1))[i]? = some j := hj
    have hi : (((liveOf M ow).map (·.2)).map fun i => hs.getD i 0)[i]? = some h := hi
    rw [List.getElem?_map] at hj
    rw [List.getElem?_map, List.getElem?_map] at hi
    obtain ⟨⟨j', k⟩, hq, ej⟩ := Option.map_eq_some_iff.mp hj
    have ej : j' = j := ej
    subst ej
    rw [hq] at hi
    have hi : hs.getD k 0 = h := Option.some.inj hi
    obtain ⟨lj, ow1⟩ := (mem_live W.size).mp (List.mem_of_getElem? hq)
    obtain ⟨h', n, a1, a2, a3⟩ := W.sits lj ow1
    have eh : h' = h := by
      rw [← hi, Array.getD_eq_getD_getElem?, ← Array.getElem?_toList, a1]
      rfl
    subst eh
    refine ⟨n, a2, fun c hc => ?_⟩
    show way M h' c ∈ (liveOf M ow).map (·.1)
    cases q : oAt ow (way M h' c) with
    | none => exact absurd q (a3 c hc)
    | some k2 => exact List.mem_map.mpr ⟨(way M h' c, k2), (mem_live W.size).mpr ⟨way_in_ h' c, q⟩, rfl⟩
end Yt

set_option Elab.async false
set_option linter.all false
set_option maxRecDepth 100000
set_option maxHeartbeats 2000000
namespace Yt
open PySem PySem.Spec PyProof.Rows L2
/-! ### sets of tuples of numbers and texts: the search, what comes in -/
abbrev hashT (P : Program) (w : World) (k : List Key) : Int := tupleKeyHash (mixKind P w) k
abbrev IsTup (P : Program) (w : World) (h : Heap) (k : List Key) (b : Addr) : Prop := IsTupleKey (mixKind P w) h k b
def rowsT (P : Program) (w : World) (L : List (Addr × List Key)) : List (Int × Value) := L.map fun e => (hashT P w e.2, Value.ref e.1)
def okM (m : Nat) : Prop := m = 7 ∨ m = 31 ∨ m = 127 ∨ m = 511
theorem okM.round {m : Nat} : okM m → Round m
  | .inl e => e ▸ round7
  | .inr (.inl e) => e ▸ round31
  | .inr (.inr (.inl e)) => e ▸ round127
  | .inr (.inr (.inr e)) => e ▸ round511
section
variable {P : Program} {w : World} {A : Around} {E : Value → Shared → Prop} {s : Shared}
theorem items_leaf {k : List Key} {vs : List Value} (h : ItemsAre (mixKind P w) k vs) : ∀ v ∈ vs, v.scannable = true := by
  induction h with
  | nil => exact fun v hv => nomatch hv
  | cons h1 _ ih =>
    intro v hv
    rcases List.mem_cons.mp hv with rfl | hv
    · rcases keyIs_shape h1 with ⟨i, t, _, rfl⟩ | ⟨x, t, _, rfl⟩
      · rfl
      · rfl
    · exact ih v hv
theorem leaf_class {v : Value} (h : v.scannable = true) (n : Nat) : ofAClassStatement n v = pure false := by
  cases v <;> first | (cases n <;> rfl) | cases h
theorem tup_class {k : List Key} {b : Addr} {Q : Bool → Shared → Prop} (hk : IsTup P w s.heap k b) (q : Q false s) : wpAny (model P w) A (ofAClassStatement 8 (.ref b)) Q E s := by
  have isT := hk.typeIs
  obtain ⟨ob, its, n, hob, _, hdat, hits⟩ := hk
  have leafs := items_leaf hits
  unfold ofAClassStatement
  refine wpAny_bind (wpAny_typeOf isT ?_)
  dsimp only
  have e : (("tuple" : String) == "tuple") = true := by decide
  simp only [e, if_true, Bool.not_true, Bool.false_eq_true, if_false]
  try refine wpAny_bind (wpAny_pure ?_)
  try simp only [Bool.not_true, Bool.false_eq_true, if_false]
  show wpAny (model P w) A (seqItems? (.ref b) >>= _) Q E s
  refine wpAny_bind (wpAny_seqItems hob hdat ?_)
  dsimp only
  refine wpAny_bind ?_
  show wpAny (model P w) A (forIn its _ _) _ E s
  rw [← Array.forIn_toList]
  refine wpAny_forIn_list _ (fun left st u => st.1 = none ∧ u = s ∧ ∀ v ∈ left, v.scannable = true) _ ?_ ?_ _ _ ⟨rfl, rfl, leafs⟩
  · rintro v left st u ⟨_, rfl, al⟩
    rw [leaf_class (al v List.mem_cons_self)]
    refine wpAny_bind (wpAny_pure ?_)
    simp only [Bool.false_eq_true, if_false]
    exact wpAny_pure ⟨rfl, rfl, fun z hz => al z (List.mem_cons_of_mem _ hz)⟩
  · rintro ⟨st1, st2⟩ u ⟨none1, rfl, _⟩
    simp only at none1
    subst none1
    exact wpAny_pure q
/-- whatever it says -/
theorem tup_byValue {k : List Key} {b : Addr} {Q : Bool → Shared → Prop} (hk : IsTup P w s.heap k b) (q : ∀ c, Q c s) : wpAny (model P w) A (hashByValue 8 (.ref b)) Q E s := by
  have isT := hk.typeIs
  obtain ⟨ob, its, n, hob, _, hdat, hits⟩ := hk
  have leafs := items_leaf hits
  unfold hashByValue
  refine wpAny_bind (wpAny_specialOf isT F.slot_tuple_hash.lookup ?_)
  show wpAny (model P w) A (seqItems? (.ref b) >>= _) Q E s
  refine wpAny_bind (wpAny_seqItems hob hdat ?_)
  refine wpAny_bind ?_
  show wpAny (model P w) A (forIn its _ _) _ E s
  rw [← Array.forIn_toList]
  refine wpAny_mono (wpAny_forIn_list _ (fun left st u => st.1 = none ∧ u = s ∧ ∀ v ∈ left, v.scannable = true) (fun st u => u = s ∧ (st.1 = none ∨ ∃ c, st.1 = some c)) ?turn ?fin _ _ ⟨rfl, rfl, leafs⟩) ?post fun _ _ y => y
  case turn =>
    rintro v left st u ⟨_, rfl, al⟩
    rw [hashByValue_scannable _ (al v List.mem_cons_self)]
    refine wpAny_bind (wpAny_pure ?_)
    cases plainKind v with
    | true =>
      simp only [Bool.not_true, Bool.false_eq_true, if_false]
      exact wpAny_pure ⟨rfl, rfl, fun z hz => al z (List.mem_cons_of_mem _ hz)⟩
    | false =>
      simp only [Bool.not_false, if_true]
      exact wpAny_pure ⟨rfl, .inr ⟨_, rfl⟩⟩
  case fin =>
    rintro st u ⟨h1, h2, _⟩
    exact ⟨h2, .inl h1⟩
  case post =>
    rintro ⟨st1, st2⟩ u ⟨rfl, h⟩
    rcases h with h | ⟨c, h⟩
    · simp only at h
      subst h
      exact wpAny_pure (q _)
    · simp only at h
      subst h
      exact wpAny_pure (q _)
theorem tup_unseen {k : List Key} {b : Addr} {Q : Bool → Shared → Prop} (hk : IsTup P w s.heap k b) {ys : List Value} (hy : ∀ y ∈ ys, ∃ k' c, y = Value.ref c ∧ IsTup P w s.heap k' c) (q : Q false s) :
    wpAny (model P w) A (searchCouldBeSeen (.ref b) ys) Q E s := by
  unfold searchCouldBeSeen
  refine wpAny_bind ?_
  refine wpAny_forIn_list _ (fun left st u => st.1 = none ∧ u = s ∧ ∀ y ∈ left, ∃ k' c, y = Value.ref c ∧ IsTup P w s.heap k' c) _ ?_ ?_ _ _ ⟨rfl, rfl, hy⟩
  · rintro v left st u ⟨_, rfl, al⟩
    obtain ⟨k', c, rfl, hc⟩ := al v List.mem_cons_self
    have al' := fun z hz => al z (List.mem_cons_of_mem _ hz)
    dsimp only
    by_cases same : (b == c || (carriedByValue (.ref b) && carriedByValue (.ref c))) = true
    · exact wp_if_pos same (wpAny_pure ⟨rfl, rfl, al'⟩)
    · refine wp_if_neg same ?_
      refine wpAny_bind (wpAny_eqIsQuiet_tuple hk ?_)
      simp only [Bool.not_true, Bool.false_eq_true, if_false]
      refine wpAny_bind (wpAny_eqIsQuiet_tuple hc ?_)
      simp only [Bool.not_true, Bool.false_eq_true, if_false]
      refine wpAny_bind (tup_class hk ?_)
      simp only [Bool.false_eq_true, if_false]
      refine wpAny_bind (tup_class hc ?_)
      simp only [Bool.false_eq_true, if_false]
      exact wpAny_pure ⟨rfl, rfl, al'⟩
  · rintro ⟨st1, st2⟩ u ⟨none1, rfl, _⟩
    simp only at none1
    subst none1
    exact wpAny_pure q
end
end Yt

set_option Elab.async false
set_option linter.all false
set_option maxRecDepth 100000
set_option maxHeartbeats 2000000
namespace Yt
open PySem PySem.Spec PyProof.Rows L2
/-- the set at a, its members by their tuples in the table's order -/
structure TupSet (P : Program) (w : World) (h : Heap) (a : Addr) (L : List (Addr × List Key)) (es : Array (Int × Value)) (ep : Nat) (t : SetTable) : Prop where
  there : ∃ o, h.get? a = some o ∧ o.ExactSet ∧ o.data = .set es ep t
  rows : es.toList = rowsT P w L
  seats : Seats t (L.map fun e => hashT P w e.2)
  mask : okM t.mask
  unlike : (L.map (·.2)).Nodup
  tups : ∀ e ∈ L, IsTup P w h e.2 e.1
  led : w.params.followText "set-order" = true ∨ t.led = true
  room : L.length * 5 < t.mask * 3
  few : L.length < 300
section
variable {P : Program} {w : World} {A : Around} {E : Value → Shared → Prop} {s : Shared} {a : Addr} {L : List (Addr × List Key)} {es : Array (Int × Value)} {ep : Nat} {t : SetTable}
theorem TupSet.size {h : Heap} (R : TupSet P w h a L es ep t) : es.size = L.length := by
  have := congrArg List.length R.rows
  rwa [Array.length_toList, rowsT, List.length_map] at this
theorem TupSet.places {h : Heap} (R : TupSet P w h a L es ep t) : t.place.toList.length = L.length := by
  rw [R.seats.many, List.length_map]
theorem fits_by {n : Nat} (h1 : t.place.toList.length = n) (h2 : t.dummies = #[]) (h3 : n ≤ t.mask) : t.fits n = true := by
  unfold SetTable.fits SetTable.fill
  rw [← Array.length_toList, h1, h2]
  simp [h3]
theorem TupSet.fits {h : Heap} (R : TupSet P w h a L es ep t) : t.fits es.size = true := by
  have := R.room
  exact fits_by (R.places.trans R.size.symm) R.seats.none (by rw [R.size]; omega)
theorem TupSet.entry {h : Heap} (R : TupSet P w h a L es ep t) {i : Nat} {e : Addr × List Key} (q : L[i]? = some e) : es[i]? = some (hashT P w e.2, Value.ref e.1) := by
  rw [← Array.getElem?_toList, R.rows, rowsT, List.getElem?_map, q]
  rfl
theorem TupSet.stands {h : Heap} (R : TupSet P w h a L es ep t) : ¬ t.gaveWay = true := by
  unfold SetTable.gaveWay
  rcases R.mask with e | e | e | e <;> rw [e] <;> decide
theorem no_dummy (m : Nat) : ∀ (n : Nat) (p : SetTable.Probe), p.dummy = none → (nth m p n).dummy = none
  | 0, _, h => h
  | n + 1, p, h => no_dummy m n (adv m p) (by unfold adv; split <;> exact h)
/-- the search, from any step of its way on -/
theorem find_from (R : TupSet P w s.heap a L es ep t) {x : Addr} {k : List Key} (hx : IsTup P w s.heap k x) (hu : A.units < cLine) {n : Nat} (nf : n < 10 * SetTable.turns t.mask)
    (out : way t.mask (hashT P w k) n ∉ t.place.toList) (full : ∀ c, c < n → way t.mask (hashT P w k) c ∈ t.place.toList) {Q : SetFound → Shared → Prop}
    (yes : k ∈ L.map (·.2) → Q (.there none) s) (no : k ∉ L.map (·.2) → Q (.free (way t.mask (hashT P w k) n) false) s) :
    ∀ (fuel c : Nat) (from_ : Option SetTable.Probe), from_.getD (t.probeStart (hashT P w k)) = nth t.mask (runAt t.mask (SetTable.bits (hashT P w k) % (t.mask + 1)) (SetTable.bits (hashT P w k))) c → c ≤ n → n - c < fuel →
      (∀ (i : Nat) (e : Addr × List Key), L[i]? = some e → e.2 = k → ∃ d, c ≤ d ∧ d < n ∧ t.place.toList[i]? = some (way t.mask (hashT P w k) d)) →
      wpAny (model P w) A (setSearchFrom a (.ref x) (hashT P w k) true fuel from_) Q E s
  | 0, c, _, _, _, lt, _ => absurd lt (Nat.not_lt_zero _)
  | fuel + 1, c, from_, ef, cn, lt, left => by
    obtain ⟨ob, hob, hex, hdat⟩ := R.there
    rw [setSearchFrom_succ]
    refine wpAny_bind (wpAny_setState_of hob hdat R.fits ?_)
    dsimp only
    refine wp_if_neg R.stands ?_
    try refine wpAny_bind (wpAny_pure ?_)
    generalize ep0 : runAt t.mask (SetTable.bits (hashT P w k) % (t.mask + 1)) (SetTable.bits (hashT P w k)) = p0 at ef
    have way_of_ : ∀ d, way t.mask (hashT P w k) d = (nth t.mask p0 d).j := fun d => by rw [← ep0]
    have later : ∀ d, nth t.mask (nth t.mask p0 c) d = nth t.mask p0 (c + d) := fun d => (nth_add t.mask c p0 d).symm
    have dm0 : p0.dummy = none := by rw [← ep0] <;> rfl
    have spec := go_spec t R.seats.up R.seats.none (fun i => (es[i]?.map (·.1)).getD 0) (hashT P w k) (10 * SetTable.turns t.mask) (n - c) _ (no_dummy t.mask c p0 dm0) (by omega)
      (fun d hd => by rw [later, ← way_of_]; exact full (c + d) (by omega)) (by rw [later, ← way_of_, show c + (n - c) = n by omega]; exact out)
    have hash_of : ∀ {i : Nat} {e : Addr × List Key}, L[i]? = some e → (fun i => (es[i]?.map (·.1)).getD 0) i = hashT P w e.2 := fun {i e} q => by
      show (es[i]?.map (·.1)).getD 0 = _
      rw [R.entry q]
      rfl
    rcases spec with ⟨d, i, dn, hi, _, before, ans⟩ | ⟨before, ans⟩
    · rw [later, later] at ans
      rw [later, ← way_of_] at hi
      have ans' : t.probe (fun i => (es[i]?.map (·.1)).getD 0) (hashT P w k) (from_.getD (t.probeStart (hashT P w k))) = some (.candidate (nth t.mask p0 (c + d)).j i (nth t.mask p0 (c + (d + 1)))) := by
        rw [ef]
        exact ans
      rw [ans']
      dsimp only
      have il : i < L.length := by
        rw [← R.places]
        exact (List.getElem?_eq_some_iff.mp hi).1
      obtain ⟨e, he⟩ : ∃ e, L[i]? = some e := ⟨_, List.getElem?_eq_getElem il⟩
      have hm := List.mem_of_getElem? he
      have seat : t.slot (nth t.mask p0 (c + d)).j = .live i := slot_live R.seats.up (by rw [← way_of_]; exact hi)
      have tail : wpAny (model P w) A (searchRest a (.ref x) (hashT P w k) true fuel es t (nth t.mask p0 (c + d)).j i (nth t.mask p0 (c + (d + 1)))) Q E s := by
        unfold searchRest
        rw [R.entry he]
        dsimp only
        refine wpAny_bind (wpAny_holding (wpAny_eqBool_tuple hu (R.tups e hm) hx ?_))
        refine wpAny_bind (wpAny_setState_of hob hdat R.fits ?_)
        dsimp only
        by_cases same : e.2 = k
        · refine wp_if_pos (by simp [same]) ?_
          exact wpAny_pure (yes (List.mem_map.mpr ⟨e, hm, same⟩))
        · refine wp_if_neg (by simp [same]) ?_
          try refine wpAny_bind (wpAny_pure ?_)
          rw [sameMem]
          dsimp only
          simp only [if_true, seat, R.entry he]
          refine wpAny_bind (wpAny_isSame_ref_self (wpAny_bind (wpAny_pure ?_)))
          simp only [if_true]
          refine wp_if_neg (by simp [same]) ?_
          refine find_from R hx hu nf out full yes no fuel (c + (d + 1)) _ (by rw [ep0] <;> rfl) (by omega) (by omega) fun i1 e1 h1 k1 => ?_
          obtain ⟨d1, a1, a2, a3⟩ := left i1 e1 h1 k1
          refine ⟨d1, ?_, a2, a3⟩
          rcases Nat.lt_trichotomy d1 (c + d) with z | z | z
          · refine absurd ?_ (before (d1 - c) i1 (by omega) (by rw [later, ← way_of_, show c + (d1 - c) = d1 by omega]; exact a3))
            rw [← k1]
            exact hash_of h1
          · have s1 := slot_live R.seats.up a3
            rw [z, way_of_, seat] at s1
            injection s1 with s1
            rw [← s1, he] at h1
            exact absurd ((congrArg Prod.snd (Option.some.inj h1)).trans k1) same
          · omega
      by_cases hl : t.led = true
      · refine wp_if_neg (by simp [hl]) ?_
        try refine wpAny_bind (wpAny_pure ?_)
        exact tail
      · refine wp_if_pos (by simp [hl]) ?_
        refine wpAny_bind (tup_unseen hx (fun y hy => ?_) ?_)
        · obtain ⟨r, hr, er⟩ := List.mem_map.mp hy
          have hr : r ∈ es ∧ r.1 = hashT P w k := by simpa using hr
          have hr1 : r ∈ es.toList := by simpa using hr.1
          rw [R.rows, rowsT] at hr1
          obtain ⟨e1, he1, e1r⟩ := List.mem_map.mp hr1
          exact ⟨e1.2, e1.1, by rw [← er, ← e1r], R.tups e1 he1⟩
        · refine wp_if_neg (by decide) ?_
          try refine wpAny_bind (wpAny_pure ?_)
          exact tail
    · rw [later, show c + (n - c) = n by omega, ← way_of_] at ans
      have ans' : t.probe (fun i => (es[i]?.map (·.1)).getD 0) (hashT P w k) (from_.getD (t.probeStart (hashT P w k))) = some (.empty (way t.mask (hashT P w k) n) none) := by
        rw [ef]
        exact ans
      rw [ans']
      dsimp only
      refine wpAny_pure (no fun hm => ?_)
      obtain ⟨e, he, ek⟩ := List.mem_map.mp hm
      obtain ⟨i, hi⟩ := List.mem_iff_getElem?.mp he
      obtain ⟨d, a1, a2, a3⟩ := left i e hi ek
      refine before (d - c) i (by omega) (by rw [later, ← way_of_, show c + (d - c) = d by omega]; exact a3) ?_
      rw [← ek]
      exact hash_of hi
theorem find_tup (R : TupSet P w s.heap a L es ep t) {x : Addr} {k : List Key} (hx : IsTup P w s.heap k x) (hu : A.units < cLine) {Q : SetFound → Shared → Prop} (yes : k ∈ L.map (·.2) → Q (.there none) s)
    (no : ∀ n, k ∉ L.map (·.2) → way t.mask (hashT P w k) n ∉ t.place.toList → (∀ c, c < n → way t.mask (hashT P w k) c ∈ t.place.toList) → Q (.free (way t.mask (hashT P w k) n) false) s) :
    wpAny (model P w) A (setSearch a (.ref x) (hashT P w k) true) Q E s := by
  have room := R.room
  obtain ⟨n, nf, out, full⟩ := R.seats.free (by rw [List.length_map]; omega) (hashT P w k)
  have small : n < 100000 := by
    unfold SetTable.turns at nf
    rcases R.mask with e | e | e | e <;> omega
  unfold setSearch
  refine find_from R hx hu nf out full yes (fun z => no n z out full) 100000 0 none rfl (Nat.zero_le n) (by omega) fun i e he ek => ?_
  have hh : (L.map fun e => hashT P w e.2)[i]? = some (hashT P w k) := by rw [List.getElem?_map, he, ← ek] <;> rfl
  obtain ⟨j, hj⟩ : ∃ j, t.place.toList[i]? = some j := ⟨_, List.getElem?_eq_getElem (by rw [R.places]; exact (List.getElem?_eq_some_iff.mp he).1)⟩
  obtain ⟨c, cn, ec⟩ := R.seats.ahead out hh hj
  exact ⟨c, Nat.zero_le c, cn, by rw [hj, ec]⟩
end
end Yt

set_option Elab.async false
set_option linter.all false
set_option maxRecDepth 100000
set_option maxHeartbeats 2000000
namespace Yt
open PySem PySem.Spec PyProof.Rows L2
/-! ### one comes in -/
section
variable {P : Program} {w : World} {A : Around} {E : Value → Shared → Prop} {s : Shared} {a : Addr} {L : List (Addr × List Key)} {es : Array (Int × Value)} {ep : Nat} {t : SetTable}
theorem IsTup.other {h h' : Heap} {k : List Key} {b : Addr} {o : Obj} (hb : IsTup P w h k b) (ho : h.get? a = some o) (hd : o.data = .set es ep t) (sb : Heap.SameBut a h h') : IsTup P w h' k b := by
  obtain ⟨ob, its, n, hob, hc, hdat, hits⟩ := hb
  refine ⟨ob, its, n, (sb.2 b fun e => ?_).trans hob, hc, hdat, hits⟩
  rw [e, ho] at hob
  rw [← Option.some.inj hob, hd] at hdat
  cases hdat
theorem cut_perm {α : Type} (l : List α) (p : Nat) (x : α) : (l.take p ++ x :: l.drop p).Perm (x :: l) := by
  have h := (List.perm_middle (a := x) (l₁ := l.take p) (l₂ := l.drop p))
  rwa [List.take_append_drop] at h
theorem rows_len (L : List (Addr × List Key)) : (rowsT P w L).length = L.length := List.length_map _
theorem in_order (L : List (Addr × List Key)) (es : Array (Int × Value)) (hr : es.toList = rowsT P w L) : ∀ ord : List Nat, (∀ i ∈ ord, i < L.length) →
    ∃ L', ord.filterMap (fun i => es[i]?) = rowsT P w L' ∧ L' = ord.filterMap (fun i => L[i]?) ∧ (L'.map fun e => hashT P w e.2) = ord.map fun i => (es.map (·.1)).getD i 0
  | [], _ => ⟨[], rfl, rfl, rfl⟩
  | i :: ord, h => by
    obtain ⟨L', e1, e2, e3⟩ := in_order L es hr ord fun j hj => h j (List.mem_cons_of_mem _ hj)
    have il := h i List.mem_cons_self
    have q : L[i]? = some L[i] := List.getElem?_eq_getElem il
    have ent : es[i]? = some (hashT P w (L[i]).2, Value.ref (L[i]).1) := by
      rw [← Array.getElem?_toList, hr, rowsT, List.getElem?_map, q]
      rfl
    refine ⟨L[i] :: L', by rw [List.filterMap_cons_some ent, e1] <;> rfl, by rw [List.filterMap_cons_some q, e2], ?_⟩
    rw [List.map_cons, List.map_cons, e3]
    congr 1
    rw [Array.getD_eq_getD_getElem?, Array.getElem?_map, ent]
    rfl
theorem range_all {α : Type} (l : List α) : ∀ n, n ≤ l.length → (List.range n).filterMap (fun i => l[i]?) = l.take n
  | 0, _ => rfl
  | n + 1, h => by
    have q : l[n]? = some l[n] := List.getElem?_eq_getElem h
    rw [List.range_succ, List.filterMap_append, range_all l n (by omega), List.take_add_one, q, List.filterMap_cons_some q]
    rfl
/-- all laid anew in a wider table -/
theorem relay_tup {o : Obj} (ho : s.heap.get? a = some o) (hex : o.ExactSet) (hd : o.data = .set es ep t) (rows : es.toList = rowsT P w L) (pl : t.place.toList.length = L.length) (dm : t.dummies = #[]) (fit : L.length ≤ t.mask)
    (unlike : (L.map (·.2)).Nodup) (tups : ∀ e ∈ L, IsTup P w s.heap e.2 e.1) (led : w.params.followText "set-order" = true ∨ t.led = true) (few : L.length < 300) {want M : Nat} (eM : SetTable.sizeAbove want = M + 1) (hM : okM M) (room : L.length * 5 < M * 3) {Q : Unit → Shared → Prop}
    (k : ∀ h' L' es' ep' t', Heap.SameBut a s.heap h' → TupSet P w h' a L' es' ep' t' → L'.Perm L → Q () { s with heap := h' }) : wpAny (model P w) A (setRelay a want) Q E s := by
  have sz : es.size = L.length := by
    have := congrArg List.length rows
    rwa [Array.length_toList, rows_len] at this
  have M5 : M ≤ 511 := by rcases hM with e | e | e | e <;> omega
  obtain ⟨t', ord, e, perm, S, em, el⟩ := laid_anew t (hs := es.map (·.1)) (want := want) (M := M) (by omega) hM.round (by rw [Array.size_map, sz]; omega)
  rw [Array.size_map, sz] at perm
  obtain ⟨L', r1, r2, r3⟩ := in_order L es rows ord.toList fun i hi => List.mem_range.mp (perm.mem_iff.mp hi)
  have pL : L'.Perm L := by
    have := perm.filterMap fun i => L[i]?
    rw [← r2, range_all L _ (Nat.le_refl _), List.take_length] at this
    exact this
  rw [← r3] at S
  have tl : (ord.filterMap (es[·]?)).toList = rowsT P w L' := by rw [Array.toList_filterMap]; exact r1
  have sz' : (ord.filterMap (es[·]?)).size = L.length := by rw [← Array.length_toList, tl, rows_len, pL.length_eq]
  rw [setRelay_eq]
  refine wpAny_bind (wpAny_setState_of ho hd (fits_by (pl.trans sz.symm) dm (by omega)) ?_)
  dsimp only
  refine wp_if_neg (by rw [eM, sizeLine_eq]; omega) ?_
  try refine wpAny_bind (wpAny_pure ?_)
  rw [e]
  dsimp only
  refine wpAny_bind ?_
  refine wp_if_neg (by rw [sz', sz]; simp) ?_
  try refine wpAny_bind (wpAny_pure ?_)
  refine wpAny_pure ?_
  dsimp only
  refine wpAny_storeSet_of ho hd ?_ (by rw [sz', sizeLine_eq]; omega)
  have sb := Heap.SameBut.update s.heap a (Obj.putSet (ord.filterMap (es[·]?)) t')
  refine k _ L' _ (ep + 1) t' sb ⟨⟨_, store_at ho hd, ⟨hex.1, hex.2.1, hex.2.2⟩, rfl⟩, tl, S, by rw [em]; exact hM, (pL.map (·.2)).nodup_iff.mpr unlike, fun e he => (tups e (pL.mem_iff.mp he)).other ho hd sb, by rw [el]; exact led, by rw [pL.length_eq, em]; exact room, by rw [pL.length_eq]; exact few⟩ pL
theorem grow5 : SetTable.sizeAbove (SetTable.grown 5) = 31 + 1 := by decide +kernel
theorem grow19 : SetTable.sizeAbove (SetTable.grown 19) = 127 + 1 := by decide +kernel
theorem grow77 : SetTable.sizeAbove (SetTable.grown 77) = 511 + 1 := by decide +kernel
theorem tooFull_by {n : Nat} (h : t.fill = n) : t.tooFull = decide (n * 5 ≥ t.mask * 3) := by
  unfold SetTable.tooFull
  rw [h]
theorem add_tup (R : TupSet P w s.heap a L es ep t) {x : Addr} {k : List Key} (hx : IsTup P w s.heap k x) (hu : A.units < cLine) (more : L.length + 1 < 300) {Q : Bool → Shared → Prop}
    (q : ∀ b h' L' es' ep' t', Heap.SameBut a s.heap h' → TupSet P w h' a L' es' ep' t' → (k ∈ L.map (·.2) → L' = L) → (k ∉ L.map (·.2) → L'.Perm ((x, k) :: L)) → Q b { s with heap := h' }) :
    wpAny (model P w) A (setAddHashed a (.ref x) (hashT P w k)) Q E s := by
  obtain ⟨o, ho, hex, hd⟩ := R.there
  have room := R.room
  unfold setAddHashed
  refine wpAny_holding ?_
  rw [show (100000 : Nat) = 99999 + 1 from rfl, setAddHashedIn_succ]
  refine wpAny_bind (wpAny_setState_of ho hd R.fits ?_)
  dsimp only
  refine wp_if_neg (by simp [byScan, Value.scannable]) ?_
  try refine wpAny_bind (wpAny_pure ?_)
  refine wpAny_bind (find_tup R hx hu (fun hm => ?_) fun n hm out full => ?_)
  · dsimp only
    exact wpAny_pure (q false s.heap L es ep t (Heap.SameBut.refl a s.heap) R (fun _ => rfl) fun z => absurd hm z)
  · dsimp only
    refine wpAny_bind (wpAny_setState_of ho hd R.fits ?_)
    dsimp only
    obtain ⟨ple, S1, fl⟩ := R.seats.more out full
    have m1 : (t.put (way t.mask (hashT P w k) n)).1.mask = t.mask := rfl
    have l1 : (t.put (way t.mask (hashT P w k) n)).1.led = t.led := rfl
    have p1 : (t.put (way t.mask (hashT P w k) n)).2 = SetTable.below t.place (way t.mask (hashT P w k) n) := rfl
    rw [List.length_map] at fl ple
    generalize SetTable.below t.place (way t.mask (hashT P w k) n) = p at ple S1 p1
    generalize t.put (way t.mask (hashT P w k) n) = pt at S1 fl m1 l1 p1 ⊢
    obtain ⟨t1, p'⟩ := pt
    dsimp only at S1 fl m1 l1 p1 ⊢
    subst p1
    have rest : ∀ t2 : SetTable, t2.place = t1.place → t2.dummies = t1.dummies → t2.mask = t1.mask → t2.led = t1.led →
        wpAny (model P w) A (storeSet a (SetTable.insertAt es p' (hashT P w k, Value.ref x)) t2 >>= fun _ => if (!false && t2.tooFull) = true then setRelay a (SetTable.grown (es.size + 1)) >>= fun _ => pure true else pure true) Q E s := by
      intro t2 e1 e2 e3 e4
      have S2 : Seats t2 ((L.map fun e => hashT P w e.2).take p' ++ hashT P w k :: (L.map fun e => hashT P w e.2).drop p') := by
        obtain ⟨a1, a2, a3, a4, a5, a6⟩ := S1
        exact ⟨by rw [e1]; exact a1, by rw [e2]; exact a2, by rw [e1]; exact a3, by rw [e3]; exact a4, by rw [e1, e3]; exact a5, by rw [e1, e3]; exact a6⟩
      have fl2 : t2.fill = L.length + 1 := by
        rw [← fl]
        unfold SetTable.fill
        rw [e1, e2]
      have S2 : Seats t2 ((L.take p' ++ (x, k) :: L.drop p').map fun e => hashT P w e.2) := by
        rw [List.map_append, List.map_cons, List.map_take, List.map_drop]
        exact S2
      have pm := cut_perm L p' (x, k)
      have tl : (SetTable.insertAt es p' (hashT P w k, Value.ref x)).toList = rowsT P w (L.take p' ++ (x, k) :: L.drop p') := by
        rw [SetTable.toList_insertAt, R.rows]
        unfold rowsT
        rw [List.map_append, List.map_cons, List.map_take, List.map_drop]
      generalize SetTable.insertAt es p' (hashT P w k, Value.ref x) = es1 at tl
      generalize L.take p' ++ (x, k) :: L.drop p' = L1 at pm tl S2
      have len1 : L1.length = L.length + 1 := pm.length_eq
      have sz1 : es1.size = L.length + 1 := by rw [← Array.length_toList, tl, rows_len, len1]
      have un1 : (L1.map (·.2)).Nodup := (pm.map (·.2)).nodup_iff.mpr (List.nodup_cons.mpr ⟨hm, R.unlike⟩)
      refine wpAny_bind (wpAny_storeSet_of ho hd ?_ (by rw [sz1, sizeLine_eq]; omega))
      have sb := Heap.SameBut.update s.heap a (Obj.putSet es1 t2)
      have ho1 := store_at (es' := es1) (t' := t2) ho hd
      generalize s.heap.update a (Obj.putSet es1 t2) = h1 at sb ho1
      have tu1 : ∀ e ∈ L1, IsTup P w h1 e.2 e.1 := fun e he => by
        rcases List.mem_cons.mp (pm.mem_iff.mp he) with rfl | he
        · exact hx.other ho hd sb
        · exact (R.tups e he).other ho hd sb
      have led1 : w.params.followText "set-order" = true ∨ t2.led = true := by rw [e4, l1]; exact R.led
      rw [tooFull_by fl2, e3, m1]
      by_cases hf : (L.length + 1) * 5 ≥ t.mask * 3
      · rw [decide_eq_true hf]
        refine wp_if_pos rfl ?_
        have go : ∀ M, SetTable.sizeAbove (SetTable.grown (es.size + 1)) = M + 1 → okM M → (L.length + 1) * 5 < M * 3 → L.length + 1 ≤ t2.mask →
            wpAny (model P w) A (setRelay a (SetTable.grown (es.size + 1)) >>= fun _ => pure true) Q E { s with heap := h1 } := fun M g1 g2 g3 g4 =>
          wpAny_bind (relay_tup (s := { s with heap := h1 }) ho1 ⟨hex.1, hex.2.1, hex.2.2⟩ rfl tl (by rw [S2.many, List.length_map]) S2.none (by rw [len1]; exact g4) un1 tu1 led1 (by rw [len1]; exact more) g1 g2 (by rw [len1]; exact g3) fun h2 L2 es2 ep2 t3 sb2 R2 pm2 =>
            wpAny_pure (q true h2 L2 es2 ep2 t3 (sb.trans sb2) R2 (fun z => absurd z hm) fun _ => pm2.trans pm))
        rw [R.size] at go ⊢
        rcases R.mask with e | e | e | e
        · have : L.length = 4 := by rw [e] at room hf; omega
          exact go 31 (by rw [this]; exact grow5) (.inr (.inl rfl)) (by omega) (by rw [e3, m1, e]; omega)
        · have : L.length = 18 := by rw [e] at room hf; omega
          exact go 127 (by rw [this]; exact grow19) (.inr (.inr (.inl rfl))) (by omega) (by rw [e3, m1, e]; omega)
        · have : L.length = 76 := by rw [e] at room hf; omega
          exact go 511 (by rw [this]; exact grow77) (.inr (.inr (.inr rfl))) (by omega) (by rw [e3, m1, e]; omega)
        · rw [e] at hf
          omega
      · rw [decide_eq_false hf]
        refine wp_if_neg (by decide) ?_
        exact wpAny_pure (q true h1 L1 es1 (ep + 1) t2 sb ⟨⟨_, ho1, ⟨hex.1, hex.2.1, hex.2.2⟩, rfl⟩, tl, S2, by rw [e3, m1]; exact R.mask, un1, tu1, led1, by rw [len1, e3, m1]; omega, by rw [len1]; exact more⟩ (fun z => absurd z hm) fun _ => pm)
    by_cases hp : t1.plain = true
    · first
        | (refine wpAny_bind ?_; refine wp_if_pos hp ?_; refine tup_byValue hx fun c => ?_)
        | (refine wp_if_pos hp (wpAny_bind (tup_byValue hx fun c => ?_)))
      cases c with
      | true => exact rest t1 rfl rfl rfl rfl
      | false => exact rest { t1 with plain := false } rfl rfl rfl rfl
    · first
        | (refine wpAny_bind ?_; refine wp_if_neg hp ?_; refine wpAny_pure ?_)
        | (refine wp_if_neg hp ?_)
      exact rest t1 rfl rfl rfl rfl
end
end Yt

set_option Elab.async false
set_option linter.all false
set_option maxRecDepth 100000
set_option maxHeartbeats 2000000
namespace Yt
open PySem PySem.Spec PyProof.Rows L2
/-! ### sets of whatever is scanned, with what a walk over them needs -/
section
variable {P : Program} {w : World} {K : Type} [DecidableEq K] {knd : KeyKind P w K}
/-- the set at a, its table told, to be walked -/
structure Tab (knd : KeyKind P w K) (h : Heap) (a : Addr) (es : Array (Int × Value)) : Prop where
  ex : ∃ o ep t, h.get? a = some o ∧ o.ExactSet ∧ o.data = .set es ep t ∧ t.fits es.size = true ∧ Ris t.place.toList ∧ (w.params.followText "set-order" = true ∨ t.led = true)
  el : ElemsOf knd es.toList
  few : es.size < scanBound
theorem Tab.at {h h' : Heap} {a : Addr} {es : Array (Int × Value)} (T : Tab knd h a es) (k : ∀ o, h.get? a = some o → h'.get? a = some o) : Tab knd h' a es := by
  obtain ⟨o, ep, t, ho, r⟩ := T.ex
  exact ⟨⟨o, ep, t, k o ho, r⟩, T.el, T.few⟩
theorem Tab.there {h : Heap} {a : Addr} {es : Array (Int × Value)} (T : Tab knd h a es) : ∃ o, h.get? a = some o := by
  obtain ⟨o, ep, t, ho, r⟩ := T.ex
  exact ⟨o, ho⟩
variable {A : Around} {E : Value → Shared → Prop} {s : Shared} {a : Addr}
theorem tab_put {h : Heap} {o : Obj} {es es' : Array (Int × Value)} {ep : Nat} {t t' : SetTable} (ho : h.get? a = some o) (hx : o.ExactSet) (hd : o.data = .set es ep t) (el : ElemsOf knd es'.toList) (few : es'.size < scanBound)
    (f : t'.fits es'.size = true) (r : Ris t'.place.toList) (l : w.params.followText "set-order" = true ∨ t'.led = true) : ∃ o' ep', (h.update a (Obj.putSet es' t')).get? a = some o' ∧ o'.data = .set es' ep' t' ∧ o'.ExactSet ∧ Tab knd (h.update a (Obj.putSet es' t')) a es' := by
  have q := Heap.get?_update_self (Obj.putSet es' t') ho (by rw [putSet_of es' t' hd] <;> rfl)
  rw [putSet_of es' t' hd] at q
  exact ⟨_, ep + 1, q, rfl, hx, ⟨_, ep + 1, t', q, hx, rfl, f, r, l⟩, el, few⟩
/-- the end of an add: what is laid anew is what was laid -/
theorem tab_end {g : Bool → Sem Unit} (hg : ∀ (b : Bool) (u : Shared) (Z : Unit → Shared → Prop), Z () u → wpAny (model P w) A (g b) Z E u) {o : Obj} {es es1 : Array (Int × Value)} {ep : Nat} {t t2 : SetTable} {wd : Bool} {Z : Option Bool → Shared → Prop}
    (ho : s.heap.get? a = some o) (hx : o.ExactSet) (hd : o.data = .set es ep t) (el : ElemsOf knd es1.toList) (few : es1.size < scanBound) (f : t2.fits es1.size = true) (r : Ris t2.place.toList) (l : w.params.followText "set-order" = true ∨ t2.led = true)
    (k : ∀ h' es', Heap.SameBut a s.heap h' → Tab knd h' a es' → es'.toList.Perm es1.toList → Z (some true) { s with heap := h' }) :
    wpAny (model P w) A (storeSet a es1 t2 >>= fun _ => if (!wd && t2.tooFull) = true then (g (relayAll t2 es1 (SetTable.grown es1.size)).2.2 >>= fun _ => storeSet a (relayAll t2 es1 (SetTable.grown es1.size)).1 (relayAll t2 es1 (SetTable.grown es1.size)).2.1 >>= fun _ => pure (some true)) else pure (some true)) Z E s := by
  obtain ⟨o1, ep1, h1, d1, x1, T1⟩ := tab_put ho hx hd el few f r l
  have same := Heap.SameBut.update s.heap a (Obj.putSet es1 t2)
  refine wpAny_bind (wpAny_storeSet_of ho hd ?_ (fits_of_scanBound few))
  split
  · have p3 := relayAll_perm t2 es1 (SetTable.grown es1.size)
    have f3 := relayAll_fits t2 es1 (SetTable.grown es1.size)
    have r3 := relayAll_ris t2 es1 (SetTable.grown es1.size)
    have l3 := relayAll_led t2 es1 (SetTable.grown es1.size)
    revert p3 f3 r3 l3
    generalize relayAll t2 es1 (SetTable.grown es1.size) = W
    rcases W with ⟨es3, t3, gv⟩
    intro p3 f3 r3 l3
    have z3 : es3.size = es1.size := by simpa using p3.length_eq
    obtain ⟨_, _, _, _, _, T3⟩ := tab_put h1 x1 d1 (el.perm p3) (by rw [z3]; exact few) f3 r3 (l.imp id fun q => l3.trans q)
    exact wpAny_bind (hg _ _ _ (wpAny_bind (wpAny_storeSet_of h1 d1 (wpAny_pure (k _ es3 (same.trans (Heap.SameBut.update _ a _)) T3 p3)) (fits_of_scanBound (by rw [z3]; exact few)))))
  · exact wpAny_pure (k _ es1 same T1 (.refl _))
/-- one that is there stays alone; another one comes in somewhere -/
theorem tab_add {es : Array (Int × Value)} {k : K} {x : Value} {Z : Bool → Shared → Prop} (hk : knd.is k x = true) (hs : x.scannable = true) (T : Tab knd s.heap a es) (room : es.size + 1 < scanBound)
    (old : ∀ e ∈ es.toList, knd.is k e.2 = true → Z false s) (new : (∀ e ∈ es.toList, ¬ knd.is k e.2 = true) → ∀ h' es', Heap.SameBut a s.heap h' → Tab knd h' a es' → es'.toList.Perm ((knd.hash k, x) :: es.toList) → Z true { s with heap := h' }) :
    wpAny (model P w) A (setAddHashed a x (knd.hash k)) Z E s := by
  obtain ⟨o, ep, t, ho, hx, hd, hf, hr, hl⟩ := T.ex
  have gw : ∀ (b : Bool) (u : Shared) (Y : Unit → Shared → Prop), Y () u → wpAny (model P w) A (match b with | true => rule "set.scan.the-table-gave-way" | false => pure ()) Y E u := by
    rintro (_ | _) u Y q
    · exact wpAny_pure q
    · exact wpAny_rule q
  unfold setAddHashed setAddHashedIn; refine wpAny_holding (wpAny_bind (wpAny_setState_of ho hd hf ?_))
  show wpAny _ _ (if byScan x es = true then _ else _) _ _ _
  rw [byScan_of hs T.few T.el, if_pos rfl]; unfold setAddByScan
  refine wpAny_bind (wpAny_bind (wpAny_rule (wpAny_bind (wpAny_setScan_of hk ho hd hf T.el ?_))))
  cases hi : es.toList.findIdx? fun e => knd.is k e.2 with
  | some j =>
    obtain ⟨lt, pj, _⟩ := List.findIdx?_eq_some_iff_getElem.mp hi
    exact wpAny_pure (wpAny_pure (old _ (List.getElem_mem lt) pj))
  | none =>
    have non : ∀ e ∈ es.toList, ¬ knd.is k e.2 = true := fun e he => by simpa using List.findIdx?_eq_none_iff.mp hi e he
    have p1 := layNew_perm t es (knd.hash k) x
    have f1 := layNew_fits t es (knd.hash k) x
    have r1 := layNew_ris t es (knd.hash k) x hr
    have l1 := layNew_led t es (knd.hash k) x
    dsimp only
    generalize layNew t es (knd.hash k) x = W at p1 f1 r1 l1 ⊢
    rcases W with ⟨es1, t1, wd, gv⟩
    dsimp only at p1 f1 r1 l1 ⊢
    rw [Array.toList_push] at p1
    have z1 : es1.size = es.size + 1 := by simpa using p1.length_eq
    have e1 := (T.el.push hk hs).perm p1
    have led1 : w.params.followText "set-order" = true ∨ t1.led = true := hl.imp id fun q => l1.trans q
    have fin : ∀ h' es', Heap.SameBut a s.heap h' → Tab knd h' a es' → es'.toList.Perm es1.toList → Z true { s with heap := h' } := fun h' es' sb T' p' => new non h' es' sb T' ((p'.trans p1).trans (List.perm_append_singleton _ _))
    refine wpAny_bind (gw _ _ _ ?_)
    have few1 : es1.size < scanBound := by rw [z1]; exact room
    by_cases hp : t1.plain = true
    · rw [hp, if_pos rfl, hashByValue_scannable 8 hs]
      refine wpAny_bind (wpAny_pure ?_)
      cases plainKind x with
      | true => exact tab_end gw ho hx hd e1 few1 f1 r1 led1 fun h' es' sb T' p' => wpAny_pure (fin h' es' sb T' p')
      | false => exact tab_end gw ho hx hd e1 few1 (SetTable.fits_plain_off f1) r1 led1 fun h' es' sb T' p' => wpAny_pure (fin h' es' sb T' p')
    · rw [if_neg hp]
      exact wpAny_bind (wpAny_pure (tab_end gw ho hx hd e1 few1 f1 r1 led1 fun h' es' sb T' p' => wpAny_pure (fin h' es' sb T' p')))
end
end Yt

set_option Elab.async false
set_option linter.all false
set_option maxRecDepth 100000
set_option maxHeartbeats 2000000
namespace Yt
open PySem PySem.Spec PyProof.Rows L2
/-! ### sets of numbers and texts as tracked things -/
def keyOfV : Value → Key
  | .int i _ => .inl i
  | .str x _ => .inr x
  | _ => .inl 0
theorem keyOfV_of {k : Key} {u : Value} (r : RelV (kV k) u) : keyOfV u = k := by
  cases k with
  | inl i =>
    obtain ⟨t, rfl⟩ := r
    rfl
  | inr x =>
    obtain ⟨t, rfl⟩ := r
    rfl
def MemK (e : Int × Value) : Prop := ∃ k, RelV (kV k) e.2
theorem MemK.at {e : Int × Value} (h : MemK e) : RelV (kV (keyOfV e.2)) e.2 := by
  obtain ⟨k, r⟩ := h
  rw [keyOfV_of r]
  exact r
/-- the set at a: its members, in whatever order -/
def SetKAt (P : Program) (w : World) (h : Heap) (a : Addr) (ks : List Key) : Prop := ∃ es, Tab (mixKind P w) h a es ∧ (es.toList.map fun e => keyOfV e.2).Perm ks ∧ ks.Nodup ∧ ∀ e ∈ es.toList, MemK e
def SetKO (P : Program) (w : World) (a : Addr) (ks : List Key) : HO := .ext fun h => SetKAt P w h a ks
theorem setKO_ok {P : Program} {w : World} {H : Hp} {h : Heap} {a : Addr} {ks : List Key} (R : SetKAt P w h a ks) : ObjOk P w H h a (SetKO P w a ks) :=
  ⟨R, R.elim fun es z => z.1.there, fun h1 h2 p k => p.elim fun es z => ⟨es, z.1.at k, z.2⟩⟩
theorem setKO_at {X : Cx} {pins : List (Addr × Obj)} {σ : L2.St} {H : Hp} {s : Shared} {a : Addr} {ks : List Key} (I : Inv X pins σ H s) (ha : H a = some (SetKO X.prog X.w a ks)) : SetKAt X.prog X.w s.heap a ks := (I.hok a _ ha).1
abbrev fresh (w : World) : Obj := { cls := .type "set", dict := none, data := .set #[] 0 (.fresh 0 0 (!w.params.followText "set-order")) }
theorem setK_fresh {P : Program} {w : World} (h : Heap) : SetKAt P w (h.push (fresh w)) h.objs.size [] := by
  refine ⟨#[], ⟨⟨_, 0, _, Heap.get?_push_size _ rfl, ⟨rfl, rfl, rfl⟩, rfl, rfl, List.Pairwise.nil, ?_⟩, (fun e he => by simp at he), by decide⟩, .refl _, List.nodup_nil, fun e he => by simp at he⟩
  cases w.params.followText "set-order" with
  | false => exact .inr rfl
  | true => exact .inl rfl
/-! what comes in -/
open Classical in
noncomputable def putS (ks : List Key) (k : Key) : List Key := if k ∈ ks then ks else ks ++ [k]
def addK (P : Program) (w : World) (D : Addr) (y : V) (H : Hp) (N : Hp → Prop) : Prop := ∃ k ks, y = kV k ∧ H D = some (SetKO P w D ks) ∧ ks.length + 1 < scanBound ∧ N (upd H D (SetKO P w D (putS ks k)))
/-- what a set's add has to do for a comprehension -/
def Adds (P : Program) (w : World) (add : Addr → V → Hp → (Hp → Prop) → Prop) : Prop := ∀ (Y : Cx), Y.prog = P → Y.w = w → Y.A.units + 1 < cLine → ∀ {pins : List (Addr × Obj)} {σ : L2.St} {H : Hp} {s : Shared} {E : Value → Shared → Prop} {D : Addr} {y : V} {u : Value} {N : Hp → Prop} {Q : Value → Shared → Prop},
  Inv Y pins σ H s → RelV y u → add D y H N → (∀ t G, Inv Y pins σ G t → N G → Q .none t) → wpAny (model Y.prog Y.w) Y.A (call (.builtin "set.add") [.ref D, u]) Q E s
theorem addK_ok {P : Program} {w : World} : Adds P w (addK P w) := by
  rintro Y rfl rfl _ pins σ H s E D y u N Q I r ⟨k, ks, rfl, hD, room, n⟩ fin
  obtain ⟨es, T, pm, nd, mem⟩ := setKO_at I hD
  have sz : es.size = ks.length := by
    have := pm.length_eq
    rwa [List.length_map, Array.length_toList] at this
  have hT : s.TypeIs (.ref D) "set" := by
    obtain ⟨o, _, _, ho, hx, _⟩ := T.ex
    exact ⟨o, ho, hx.1⟩
  have put : ∀ (h' : Heap) (tk : Nat), Heap.SameBut D s.heap h' → SetKAt Y.prog Y.w h' D (putS ks k) → Q .none { s with heap := h', toks := tk } := fun h' tk sb new =>
    fin _ _ (I.write (e := D) (t' := tk) (by rw [hD]; trivial) (.inl rfl) (fun b o hb ho => (sb.2 b hb).trans ho) (new.elim fun es z => z.1.there) (setKO_ok new)) n
  refine wpAny_call_entry F.slot_set_add hT F.entry_set_add ?_ (F.args_set_add_2 _ _)
  unfold Builtin.«set.add» Builtin.Frozenset.oneOther; simp only [List.isEmpty_nil, bind_assoc]
  unfold Builtin.Frozenset.addrOf setAdd; refine wpAny_bind (wpAny_pure (wpAny_bind (wpAny_pure (wpAny_bind (wpAny_holding (wpAny_bind ((mixKind Y.prog Y.w).pyHash (kV_is r) ?_)))))))
  refine tab_add (s := { s with toks := s.toks + 1 }) (kV_is r) (key_scan r) T (by omega) (fun e he q => ?_) fun non h' es' sb T' p' => ?_
  · have ek : keyOfV e.2 = k := (mixKind Y.prog Y.w).inj e.2 _ _ (kV_is (mem e he).at) q
    have hk : k ∈ ks := pm.mem_iff.mp (List.mem_map.mpr ⟨e, he, ek⟩)
    refine wpAny_pure ⟨_, rfl, put s.heap _ (Heap.SameBut.refl D s.heap) ?_⟩
    unfold putS
    rw [if_pos hk]
    exact ⟨es, T, pm, nd, mem⟩
  · have hk : k ∉ ks := fun z => by
      obtain ⟨e, he, ek⟩ := List.mem_map.mp (pm.mem_iff.mpr z)
      exact non e he (by rw [← ek]; exact kV_is (mem e he).at)
    refine wpAny_pure ⟨_, rfl, put h' _ sb ?_⟩
    unfold putS
    rw [if_neg hk]
    have q := p'.map fun e : Int × Value => keyOfV e.2
    rw [List.map_cons] at q
    have e1 : keyOfV u = k := keyOfV_of r
    refine ⟨es', T', ?_, ?_, fun e he => ?_⟩
    · refine q.trans ?_
      show (keyOfV u :: _).Perm _
      rw [e1]
      exact (List.Perm.cons k pm).trans (List.perm_append_singleton k ks).symm
    · exact List.nodup_append.mpr ⟨nd, by simp, fun x hx y hy z => hk (by rw [List.mem_singleton.mp hy] at z; exact z ▸ hx)⟩
    · rcases List.mem_cons.mp (p'.mem_iff.mp he) with z | z
      · rw [z]
        exact ⟨k, r⟩
      · exact mem e z
/-! ### {elt for target in iter if ..} -/
def turnS (add : Addr → V → Hp → (Hp → Prop) → Prop) (g : TG) (tt : TT) (te : TE) (vs : List Nat) (σ : L2.St) (D : Addr) (x : V) (H : Hp) (N : Hp → Prop) : Prop :=
  g x (wipe σ vs) H fun σ2 H2 => wipe σ2 vs = wipe σ vs ∧ tt σ2 H2 fun c H3 => if c = true then te σ2 H3 fun y H4 => add D y H4 N else N H3
def goesS (add : Addr → V → Hp → (Hp → Prop) → Prop) (g : TG) (tt : TT) (te : TE) (vs : List Nat) (σ : L2.St) (J : It) (D : Addr) (W : Nat → Nat → Hp → Prop) (R : Hp → Prop) : Prop :=
  ∀ i m H, W i m H → (J.stop i H ∧ R H) ∨ (J.go i H ∧ ∃ N : Hp → Prop, (∀ H', N H' → ∃ m', m' < m ∧ W (i + 1) m' H') ∧ ∀ x H', J.yld i H x H' → turnS add g tt te vs σ D x H' N)
def tSC (new : Addr → HO) (add : Addr → V → Hp → (Hp → Prop) → Prop) (wi : TI) (g : TG) (tt : TT) (te : TE) (vs : List Nat) : TE := fun σ H Q =>
  wi σ H fun J H1 => ∀ D, H1 D = none → ∃ W : Nat → Nat → Hp → Prop, (∃ m, W 0 m (upd H1 D (new D))) ∧ goesS add g tt te vs σ J D W fun H2 => Q (.ref D) H2
section
variable {X : Cx} {new : Addr → HO} {add : Addr → V → Hp → (Hp → Prop) → Prop}
theorem sC_core {pins : List (Addr × Obj)} {s : Shared} {σ : L2.St} {H : Hp} {Q : VK} {ex tg it : Expr} {ifs : List Expr} {sc : Scope} {own : List (Str × Nat)} {p p' : Pos} {wi : TI} {g : TG} {tt : TT} {te : TE} {Qf : Value → Shared → Prop}
    (hnew : ∀ (h : Heap) (G : Hp), ObjOk X.prog X.w G (h.push (fresh X.w)) h.objs.size (new h.objs.size)) (hadd : Adds X.prog X.w add) (hu : X.A.units + 1 < cLine) (calm : X.calm = true) (nd : X.N.Nodup) (I : Inv X pins σ H s) (hi : PI X tg it wi) (ok : BlkOk X.N X.env.scope sc own)
    (hg : ∀ s H C cl fp, PG (X.blk s H sc (compEnvC sc cl C X.env) fp) tg g) (ht : ∀ s H C cl fp, PTs (X.blk s H sc (compEnvC sc cl C X.env) fp) ifs tt) (he : ∀ s H C cl fp, PE (X.blk s H sc (compEnvC sc cl C X.env) fp) ex te)
    (hs : ∀ x, foldedSetIterable it X.env x = pure x) (h : tSC new add wi g tt te (own.map (·.2)) σ H Q)
    (fin : ∀ D C t m H', Inv X pins σ H' t → Q (.ref D) H' → t.heap.Ns C m → FpOk X pins H' C → compPost (model X.prog X.w) X.A X.xe none Qf (.ref D) C (.ok .next) t) :
    wpAny (model X.prog X.w) X.A (comprehension (.SetComp ex [⟨tg, it, ifs, 0⟩] sc p) sc X.env p' (newSet (.type "set")) false (eval it X.env)) Qf X.xe s := by
  have clo : ∀ y ∈ sc.names, y.2 = .free → ∃ c, X.env.cells.lookup y.1 = some c := fun y hy e => (ok.free y hy e).elim (fun k => I.ok.has _ (.inl k)) fun k => I.ok.has _ (.inr k)
  refine wpAny_comprehension_free (use := none) rfl hs (closure_ok clo) ok.kind (fun y hy e => by rw [ok.uniq y hy, e]) (thn (hi.run pins s σ H _ I h) fun _ s1 hx => thn hx fun _ s2 ⟨a, fp, tn, J, H2, ea, I2, T, st2, f2, q⟩ => ?_)
  subst ea
  refine PpSet.newSet_ok (newEnv_comp ?_)
  obtain ⟨D, hD⟩ : ∃ D, D = s2.heap.objs.size := ⟨_, rfl⟩
  rw [← hD]
  have nD : H2 D = none := I2.hok.fresh (Nat.le_of_eq hD.symm)
  obtain ⟨W, ⟨m0, w0⟩, turn⟩ := q D nD
  have I3 : Inv X pins σ (upd H2 D (new D)) ⟨s2.heap.push (fresh X.w), s2.gens, s2.drawn, s2.toks, s2.os⟩ := by
    refine I2.laid (t' := s2.toks) (fun b o e => Heap.get?_push_of_some _ e) (Nat.le_of_eq hD.symm) ?_
    rw [hD]
    exact hnew s2.heap _
  have live : ∀ b ∈ fp, b < s2.heap.objs.size := fun b hb => (T.obj _ _ st2 b hb).elim fun o e => Heap.lt_size e.1
  have f3 : ∀ b ∈ fp, FpOk X pins (upd H2 D (new D)) b ∧ b < (s2.heap.push (fresh X.w)).objs.size := fun b hb =>
    ⟨⟨(upd_ne (by rw [hD]; exact Nat.ne_of_lt (live b hb))).trans (f2 b hb).1, (f2 b hb).2⟩, by rw [Heap.size_push]; exact Nat.lt_succ_of_lt (live b hb)⟩
  have st3 : tn 0 (s2.heap.push (fresh X.w)) := T.keep _ _ _ st2 fun b _ o e => Heap.get?_push_of_some _ e
  have I4 := block_start I3 ok nd f3
  generalize hs3 : (⟨s2.heap.push (fresh X.w), s2.gens, s2.drawn, s2.toks, s2.os⟩ : Shared) = s3 at I3 I4 ⊢
  have h3 : s3.heap = s2.heap.push (fresh X.w) := by rw [← hs3]
  rw [← h3] at f3 st3
  have pg := hg s3 (upd H2 D (new D)) s3.heap.objs.size (cellsFrom (s3.heap.objs.size + 1) sc.names (cloFrom X.env.cells sc.names [])) fp
  have pt := ht s3 (upd H2 D (new D)) s3.heap.objs.size (cellsFrom (s3.heap.objs.size + 1) sc.names (cloFrom X.env.cells sc.names [])) fp
  have pe := he s3 (upd H2 D (new D)) s3.heap.objs.size (cellsFrom (s3.heap.objs.size + 1) sc.names (cloFrom X.env.cells sc.names [])) fp
  have unt : ∀ b ∈ fp, (upd H2 D (new D)) b = none := fun b hb => (f3 b hb).1.1
  have goal : codeAny (model X.prog X.w) X.A (.compStart (.SetComp ex [⟨tg, it, ifs, 0⟩] sc p) 0 (.ref a) (.ref D) (compEnvC sc (cellsFrom (s3.heap.objs.size + 1) sc.names (cloFrom X.env.cells sc.names [])) s3.heap.objs.size X.env)) (compPost (model X.prog X.w) X.A X.xe none Qf (.ref D) s3.heap.objs.size) ({ s3 with heap := pushCells (s3.heap.push { cls := .type "dict", data := .dict #[] }) sc.names } : Shared) := by
    obtain ⟨ce, hce⟩ : ∃ c, c = compEnvC sc (cellsFrom (s3.heap.objs.size + 1) sc.names (cloFrom X.env.cells sc.names [])) s3.heap.objs.size X.env := ⟨_, rfl⟩
    rw [← hce] at I4 pg pt pe ⊢
    have cL : ce.locals = s3.heap.objs.size := by rw [hce] <;> rfl
    obtain ⟨H3, hH3⟩ : ∃ G, G = upd H2 D (new D) := ⟨_, rfl⟩
    rw [← hH3] at I3 I4 pg pt pe w0 unt f3
    generalize hs4 : ({ s3 with heap := pushCells (s3.heap.push { cls := .type "dict", data := .dict #[] }) sc.names } : Shared) = s4 at I4 ⊢
    have st4 : tn 0 s4.heap := T.keep _ _ _ st3 fun b _ o e => by
      rw [← hs4]
      exact pushCells_keeps _ _ _ _ (Heap.get?_push_of_some _ e)
    have pinned : ∀ {σ' : L2.St} {G : Hp} {t : Shared}, Inv (X.blk s3 H3 sc ce fp) [] σ' G t → (∀ b ∈ fp, G b = none) → ∀ b ∈ fp, FpOk (X.blk s3 H3 sc ce fp) [] G b := fun {σ' G t} J' hn b hb =>
      ⟨hn b hb, (J'.ok.exf b hb).1, J'.ok.exfs b hb, .inl hb, fun x c e => (J'.ok.exf b hb).2 x c e, fun r hr => absurd (show r ∈ ([] : List (Addr × Obj)) ++ [] from hr) (by simp)⟩
    have loop : codeAny (model X.prog X.w) X.A (.compLoop (.SetComp ex [⟨tg, it, ifs, 0⟩] sc p) 0 (.ref a) (.ref D) ce) (compPost (model X.prog X.w) X.A X.xe none Qf (.ref D) s3.heap.objs.size) s4 := by
      refine PpSet.compLoopS_any (fun n t => ∃ i G, Inv (X.blk s3 H3 sc ce fp) [] (wipe σ (own.map (·.2))) G t ∧ tn i t.heap ∧ (∀ b ∈ fp, G b = none) ∧ W i n G) ?_ m0 ⟨0, H3, I4, st4, unt, w0⟩
      rintro n t5 ⟨i, H5, I5, st5, n5, w5⟩
      rcases turn i n H5 w5 with ⟨stop, qq⟩ | ⟨go, N, hN, step⟩
      · refine thnF (T.done (X.blk s3 H3 sc ce fp) rfl rfl rfl calm i [] t5 _ H5 (fun _ _ => False) I5 (pinned I5 n5) st5 stop) fun r t6 ⟨hr, I6⟩ => ?_
        subst hr
        have nC : H5 s3.heap.objs.size = none := by
          have z : H5 ce.locals = none := I6.free
          rwa [cL] at z
        obtain ⟨mm, hn, _⟩ := I6.loc
        have hn' : t6.heap.Ns ce.locals mm := hn
        rw [cL] at hn'
        exact fin D s3.heap.objs.size t6 mm H5 (I3.call' (ch := fp) I6.os I6.base I6.hok I6.bare fun b hb => ⟨(f3 b hb).1.2.2.2.1, (f3 b hb).1.2.1, (f3 b hb).1.2.2.2.2.1, (f3 b hb).1.2.2.2.2.2⟩) qq hn' (I3.fpOk (Nat.le_refl _) nC)
      · refine thnF (T.item (X.blk s3 H3 sc ce fp) rfl rfl rfl calm i [] t5 _ H5 (fun _ _ => False) I5 (pinned I5 n5) st5 go) fun r t6 ⟨u, hr, h6⟩ => ?_
        subst hr
        refine thnF h6 fun _ t7 ⟨x, H7, I7, r7, y7, st7, n7⟩ => ?_
        refine thnF (pg.run _ t7 _ H7 x u _ (I7.pinned (pinned I7 n7) (T.obj _ _ st7)) r7 (step x H7 y7)) fun _ t8 ⟨σ8, H8, I8, hw8, q8⟩ => ?_
        refine thnF (pt.run _ t8 σ8 H8 _ I8 q8) fun b t9 ⟨H9, I9, q9⟩ => ?_
        have back : ∀ {t : Shared} {G : Hp}, Inv (X.blk s3 H3 sc ce fp) ([] ++ pinsAt fp t7.heap) σ8 G t → N G → ∃ m, m < n ∧ ∃ i G, Inv (X.blk s3 H3 sc ce fp) [] (wipe σ (own.map (·.2))) G t ∧ tn i t.heap ∧ (∀ b ∈ fp, G b = none) ∧ W i m G := fun {t G} J' nx => by
          obtain ⟨m', lt, w'⟩ := hN G nx
          have held : ∀ b ∈ fp, ∀ o, t7.heap.get? b = some o → t.heap.get? b = some o ∧ G b = none := fun b hb o e =>
            have z := J'.pin (b, o) (List.mem_append_right _ (List.mem_append_right _ (mem_pinsAt hb e)))
            ⟨z.1, z.2.1⟩
          refine ⟨m', lt, i + 1, G, (J'.unpinned (pins := [])).weak (by rw [← hw8, wipe_length]) (fun j v e => (wipe_some (hw8.symm ▸ e)).1), T.keep _ _ _ st7 fun b hb o e => (held b hb o e).1, fun b hb => ?_, w'⟩
          obtain ⟨o, e, _⟩ := T.obj _ _ st7 b hb
          exact (held b hb o e).2
        cases b with
        | false => exact back I9 q9
        | true => exact thnF (pe.run _ t9 σ8 H9 _ I9 q9) fun zk t10 ⟨yk, H10, I10, r10, q10⟩ => hadd (X.blk s3 H3 sc ce fp) rfl rfl hu I10 r10 q10 fun t G J' nx => back J' nx
    exact PpSet.codeAny_compStart_set loop (T.self X.A 0 _ _ _ st4 loop)
  exact goal
theorem pe_sC {ex tg it : Expr} {ifs : List Expr} {sc : Scope} {own : List (Str × Nat)} {p : Pos} {wi : TI} {g : TG} {tt : TT} {te : TE} (hnew : ∀ (h : Heap) (G : Hp), ObjOk X.prog X.w G (h.push (fresh X.w)) h.objs.size (new h.objs.size)) (hadd : Adds X.prog X.w add) (hu : X.A.units + 1 < cLine)
    (calm : X.calm = true) (nd : X.N.Nodup) (hi : PI X tg it wi) (ok : BlkOk X.N X.env.scope sc own)
    (hg : ∀ s H C cl fp, PG (X.blk s H sc (compEnvC sc cl C X.env) fp) tg g) (ht : ∀ s H C cl fp, PTs (X.blk s H sc (compEnvC sc cl C X.env) fp) ifs tt) (he : ∀ s H C cl fp, PE (X.blk s H sc (compEnvC sc cl C X.env) fp) ex te) (hs : ∀ x, foldedSetIterable it X.env x = pure x := by intro _; rfl) :
    PE X (.SetComp ex [⟨tg, it, ifs, 0⟩] sc p) (tSC new add wi g tt te (own.map (·.2))) := by
  refine ⟨fun pins s σ H Q I h => ?_⟩
  rw [PpSet.eval_SetComp]
  refine sC_core hnew hadd hu calm nd I hi ok hg ht he hs h fun D C t m H' I' q hn f => ⟨m, hn, fun h'' sb => ?_⟩
  obtain ⟨f0, f1, f2, f3, f4, f5⟩ := f
  exact ⟨.ref D, H', I'.turned (t' := t.toks) (fun b o hb e => (sb.2 b hb).trans e) f0 f1 f3 f4 f5, rfl, q⟩
/-- over a walk: Pv by the turn -/
theorem sC_it {J : It} {n : Nat} {G : Hp → Prop} {S : Nat → Hp → V → Hp → Prop} (wk : Walk J n G S) {g : TG} {tt : TT} {te : TE} {vs : List Nat} {σ : L2.St} {H1 : Hp} {D : Addr} {R : Hp → Prop} (Pv : Nat → Hp → Prop) (h0 : Pv 0 (upd H1 D (new D))) (hG : ∀ i H, i ≤ n → Pv i H → G H)
    (hs : ∀ i x H H', i < n → Pv i H → S i H x H' → turnS add g tt te vs σ D x H' (Pv (i + 1))) (hd : ∀ H, Pv n H → R H) :
    ∃ W : Nat → Nat → Hp → Prop, (∃ m, W 0 m (upd H1 D (new D))) ∧ goesS add g tt te vs σ J D W R := by
  refine ⟨fun i m H => m = n - i ∧ i ≤ n ∧ Pv i H, ⟨_, rfl, Nat.zero_le _, h0⟩, ?_⟩
  rintro i m H ⟨rfl, le, pv⟩
  rcases Nat.lt_or_ge i n with lt | ge
  · exact .inr ⟨wk.goes i H lt (hG i H le pv), Pv (i + 1), fun H' p' => ⟨n - (i + 1), by omega, rfl, lt, p'⟩, fun x H' y => hs i x H H' lt pv (wk.yields i H x H' lt (hG i H le pv) y)⟩
  · obtain rfl : i = n := Nat.le_antisymm le ge
    exact .inl ⟨wk.stops H (hG _ H le pv), hd H pv⟩
/-! ### sorted(s), s a set of texts -/
theorem strs_of : ∀ {us : List Value}, (∀ u ∈ us, ∃ x t, u = Value.str x t) → ∃ zs : List Str, StrsAre us zs ∧ us.map keyOfV = zs.map Sum.inr
  | [], _ => ⟨[], .nil, rfl⟩
  | u :: us, h => by
    obtain ⟨zs, h1, h2⟩ := strs_of (us := us) fun v hv => h v (List.mem_cons_of_mem _ hv)
    obtain ⟨x, t, rfl⟩ := h u List.mem_cons_self
    exact ⟨x :: zs, .cons _ _ h1, by rw [List.map_cons, List.map_cons, h2] <;> rfl⟩
theorem inr_perm {xs ys : List Str} (p : (xs.map (Sum.inr : Str → Key)).Perm (ys.map Sum.inr)) : xs.Perm ys := by
  have q := p.map fun k : Key => match k with | .inr x => x | .inl _ => ("" : Str)
  rw [List.map_map, List.map_map] at q
  have e : ((fun k : Key => match k with | .inr x => x | .inl _ => ("" : Str)) ∘ (Sum.inr : Str → Key)) = id := rfl
  rwa [e, List.map_id, List.map_id] at q
def rSortK (P : Program) (w : World) : List V → Hp → VK → Prop := fun vs H Q => ∃ (a : Addr) (zs : List Str), vs = [V.ref a] ∧ H a = some (SetKO P w a (zs.map Sum.inr)) ∧ zs.length < 64 ∧ ∀ (ys : List Str) (p : Addr), ys.Perm zs → sortedS ys = true → H p = none → Q (.ref p) (upd H p (.lst (ys.map V.str)))
theorem cr_sortK (calm : X.calm = true) : CallR X (.builtin "sorted") (rSortK X.prog X.w) := by
  rintro pins s σ H vs us Q I r ⟨a, zs, rfl, ha, few, q⟩
  obtain ⟨es, T, pm, nd, mem⟩ := setKO_at I ha
  obtain ⟨o, ep, t, ho, hx, hd, hf, hr, hl⟩ := T.ex
  rw [Vals.ref1 r]
  refine Calls.call_function_entry kind_sorted plain_sorted entry_sorted (args_sorted1 _) ?_
  unfold Builtin.«sorted»
  refine wpAny_bind (m := checkCount "sorted" 1 1 _) (wpAny_pure (wpAny_bind (collect_set (A := X.A.in1) (I.ok.hd calm) ⟨o, ho, hx.1, hd⟩ hf T.few hr hl fun s1 out k1 z1 g1 o1 p1 => ?_)))
  have I1 : Inv X pins σ H s1 := I.call' (ch := []) o1 (Un.kept k1) (I.hok.kept k1) (by rw [g1]; exact I.bare) fun _ z => nomatch z
  obtain ⟨xs, hS, ek⟩ := strs_of (us := out) fun u hu => by
    obtain ⟨e, he, rfl⟩ := List.mem_map.mp (p1.mem_iff.mp hu)
    have hk := pm.mem_iff.mp (List.mem_map.mpr ⟨e, he, rfl⟩)
    obtain ⟨x, _, ex⟩ := List.mem_map.mp hk
    have rr := (mem e he).at
    rw [← ex] at rr
    obtain ⟨t, et⟩ := rr
    exact ⟨x, t, et⟩
  have px : xs.Perm zs := by
    refine inr_perm ?_
    rw [← ek]
    have := p1.map keyOfV
    rw [List.map_map] at this
    exact this.trans pm
  have ol : out.length = zs.length := by rw [← px.length_eq, hS.length]
  refine wpAny_bind (wpAny_newList ?_ (by rw [ol, sizeLine_eq]; omega))
  have hoL : (s1.heap.push (seqObj "list" out.toArray 0)).get? s1.heap.objs.size = some (seqObj "list" out.toArray 0) := Heap.get?_push_size _ rfl
  refine wpAny_bind (wpAny_holding (wpAny_call_entry slot_list_sort ⟨_, hoL, rfl⟩ entry_list_sort
    (list_sort_treeK strKind_oneLt (s := { s1 with heap := s1.heap.push (seqObj "list" out.toArray 0) }) hoL hS.keysOf (fun v₁ v₂ rest e => keyKind_strs (by rw [← e]; exact hS)) (by rw [ol]; exact few) fun st' hp hs => ⟨_, rfl, ?_⟩) (args_list_sort _)))
  obtain ⟨ys, w1, w2, w3⟩ := sorted_out_str hS hp hs
  obtain ⟨e', he'⟩ := sortedHeap_at (vs := out) (out := (arrOf st').map (·.2)) hoL
  have small : (ys.map V.str).length ≤ sizeLine := by
    rw [List.length_map, w2.length_eq, px.length_eq, sizeLine_eq]
    omega
  refine wpAny_pure ⟨_, rfl, .ref s1.heap.objs.size, upd H s1.heap.objs.size (.lst (ys.map V.str)), I1.laid (t' := s1.toks) (fun b u e => ?_) (Nat.le_refl _) (show ObjOk X.prog X.w _ _ _ (.lst (ys.map V.str)) from ⟨small, ((arrOf st').map (·.2)).toList, e', vals_of_strs w1, by rw [Array.toArray_toList]; exact he'⟩), rfl, q ys _ (w2.trans px) w3 (I1.hok.fresh (Nat.le_refl _))⟩
  have hb : b < s1.heap.objs.size := Heap.lt_size e
  rw [sortedHeap_old (Nat.ne_of_lt hb) (by rw [size_push']; exact Nat.lt_succ_of_lt hb)]
  exact Heap.get?_push_of_some _ e
end
end Yt

set_option Elab.async false
set_option linter.all false
set_option maxRecDepth 100000
set_option maxHeartbeats 2000000
namespace Yt
open PySem PySem.Spec PyProof.Rows L2
/-! ### such a set as a tracked thing -/
/-- all of it but what its members are -/
def SetTAt (P : Program) (w : World) (h : Heap) (a : Addr) (L : List (Addr × List Key)) : Prop := ∃ (es : Array (Int × Value)) (ep : Nat) (t : SetTable), (∃ o, h.get? a = some o ∧ o.ExactSet ∧ o.data = .set es ep t) ∧ es.toList = rowsT P w L ∧ Seats t (L.map fun e => hashT P w e.2) ∧ okM t.mask ∧ (L.map (·.2)).Nodup ∧
  (w.params.followText "set-order" = true ∨ t.led = true) ∧ L.length * 5 < t.mask * 3 ∧ L.length < 300
def SetTO' (P : Program) (w : World) (a : Addr) (L : List (Addr × List Key)) : HO := .ext fun h => SetTAt P w h a L
abbrev Stand (H : Hp) (L : List (Addr × List Key)) : Prop := ∀ e ∈ L, H e.1 = some (.tup (e.2.map kV))
section
variable {P : Program} {w : World}
theorem TupSet.at_ {h : Heap} {a : Addr} {L : List (Addr × List Key)} {es : Array (Int × Value)} {ep : Nat} {t : SetTable} (R : TupSet P w h a L es ep t) : SetTAt P w h a L :=
  ⟨es, ep, t, R.there, R.rows, R.seats, R.mask, R.unlike, R.led, R.room, R.few⟩
theorem setT_with {h : Heap} {a : Addr} {L : List (Addr × List Key)} (R : SetTAt P w h a L) (tu : ∀ e ∈ L, IsTup P w h e.2 e.1) : ∃ es ep t, TupSet P w h a L es ep t := by
  obtain ⟨es, ep, t, h1, h2, h3, h4, h5, h6, h7, h8⟩ := R
  exact ⟨es, ep, t, h1, h2, h3, h4, h5, tu, h6, h7, h8⟩
theorem setT_ok {H : Hp} {h : Heap} {a : Addr} {L : List (Addr × List Key)} (R : SetTAt P w h a L) : ObjOk P w H h a (SetTO' P w a L) := by
  refine ⟨R, ?_, fun h1 h2 p k => ?_⟩
  · obtain ⟨_, _, _, ⟨o, ho, _⟩, _⟩ := R
    exact ⟨o, ho⟩
  · obtain ⟨es, ep, t, ⟨o, ho, r⟩, q⟩ := p
    exact ⟨es, ep, t, ⟨o, k o ho, r⟩, q⟩
theorem setT_new {h : Heap} {a : Addr} (ho : h.get? a = some (fresh w)) : TupSet P w h a [] #[] 0 (.fresh 0 0 (!w.params.followText "set-order")) := by
  refine ⟨⟨_, ho, ⟨rfl, rfl, rfl⟩, rfl⟩, rfl, ⟨List.Pairwise.nil, rfl, rfl, round7, (fun j hj => nomatch hj), fun hi => by simp at hi⟩, .inl rfl, List.nodup_nil, (fun e he => nomatch he), ?_, (show 0 * 5 < 7 * 3 by decide), (show 0 < 300 by decide)⟩
  show _ ∨ (!w.params.followText "set-order") = true
  cases w.params.followText "set-order" with
  | false => exact .inr rfl
  | true => exact .inl rfl
theorem setT_fresh (h : Heap) (G : Hp) : ObjOk P w G (h.push (fresh w)) h.objs.size (SetTO' P w h.objs.size []) :=
  setT_ok (setT_new (Heap.get?_push_size _ rfl)).at_
theorem stand_tups {H : Hp} {h : Heap} (hok : HOk P w H h) {L : List (Addr × List Key)} (st : Stand H L) : ∀ e ∈ L, IsTup P w h e.2 e.1 := fun e he => key_of hok (st e he)
end
theorem units_in1 {A : Around} (h : A.units + 1 < cLine) : A.in1.units < cLine := by
  show A.units + 1 < cLine
  exact h
/-- one more: it stays alone if its like is there -/
def addT (P : Program) (w : World) (D : Addr) (y : V) (H : Hp) (N : Hp → Prop) : Prop := ∃ (b : Addr) (k : List Key) (L : List (Addr × List Key)), y = .ref b ∧ H b = some (.tup (k.map kV)) ∧ H D = some (SetTO' P w D L) ∧ Stand H L ∧ L.length + 1 < 300 ∧
  ∀ L', (k ∈ L.map (·.2) → L' = L) → (k ∉ L.map (·.2) → L'.Perm ((b, k) :: L)) → N (upd H D (SetTO' P w D L'))
theorem addT_ok {P : Program} {w : World} : Adds P w (addT P w) := by
  rintro Y rfl rfl hu pins σ H s E D y u N Q I r ⟨b, k, L, rfl, hb, hD, st, few, n⟩ fin
  obtain rfl : u = Value.ref b := r
  have R0 : SetTAt Y.prog Y.w s.heap D L := (I.hok D _ hD).1
  obtain ⟨es, ep, t, R⟩ := setT_with R0 (stand_tups I.hok st)
  have hT : s.TypeIs (.ref D) "set" := by
    obtain ⟨o, ho, hx, _⟩ := R.there
    exact ⟨o, ho, hx.1⟩
  refine wpAny_call_entry F.slot_set_add hT F.entry_set_add ?_ (F.args_set_add_2 _ _)
  unfold Builtin.«set.add» Builtin.Frozenset.oneOther; simp only [List.isEmpty_nil, bind_assoc]
  unfold Builtin.Frozenset.addrOf setAdd
  refine wpAny_bind (wpAny_pure (wpAny_bind (wpAny_pure (wpAny_bind (wpAny_holding (wpAny_bind (wpAny_pyHash_tuple (units_in1 hu) (stand_tups I.hok (L := [(b, k)]) (fun e he => by rw [List.mem_singleton.mp he]; exact hb) _ (List.mem_singleton.mpr rfl)) ?_)))))))
  refine add_tup (A := Y.A.in1) (s := { s with toks := s.toks + (k.length + 1) }) R (stand_tups I.hok (L := [(b, k)]) (fun e he => by rw [List.mem_singleton.mp he]; exact hb) _ (List.mem_singleton.mpr rfl)) (units_in1 hu) few fun c h' L' es' ep' t' sb R' c1 c2 => ?_
  refine wpAny_pure ⟨_, rfl, ?_⟩
  exact fin _ _ (I.write (e := D) (t' := s.toks + (k.length + 1)) (by rw [hD]; trivial) (.inl rfl) (fun b o hb ho => (sb.2 b hb).trans ho) (by obtain ⟨o, ho, _⟩ := R'.there; exact ⟨o, ho⟩) (setT_ok R'.at_)) (n L' c1 c2)
end Yt

set_option Elab.async false
set_option linter.all false
set_option maxRecDepth 100000
set_option maxHeartbeats 3200000
namespace Yt
open PySem PySem.Spec PyProof.Rows L2
/-! ### set(xs), xs a list of tuples -/
/-- what the first i have brought in -/
structure Sofar (ks : List (Addr × List Key)) (i : Nat) (L : List (Addr × List Key)) : Prop where
  of : ∀ e ∈ L, e ∈ ks.take i
  all : ∀ e ∈ ks.take i, e.2 ∈ L.map (·.2)
  len : L.length ≤ i
theorem Sofar.step {ks L L' : List (Addr × List Key)} {i : Nat} {e : Addr × List Key} (g : Sofar ks i L) (h : ks[i]? = some e) (c1 : e.2 ∈ L.map (·.2) → L' = L) (c2 : e.2 ∉ L.map (·.2) → L'.Perm (e :: L)) : Sofar ks (i + 1) L' := by
  have nx : ks.take (i + 1) = ks.take i ++ [e] := by rw [List.take_add_one, h] <;> rfl
  by_cases c : e.2 ∈ L.map (·.2)
  · rw [c1 c]
    refine ⟨fun u hu => by rw [nx]; exact List.mem_append_left _ (g.of u hu), fun u hu => ?_, Nat.le_succ_of_le g.len⟩
    rw [nx] at hu
    rcases List.mem_append.mp hu with hu | hu
    · exact g.all u hu
    · rw [List.mem_singleton.mp hu]
      exact c
  · have pm := c2 c
    refine ⟨fun u hu => ?_, fun u hu => ?_, by rw [pm.length_eq]; exact Nat.succ_le_succ g.len⟩
    · rw [nx]
      rcases List.mem_cons.mp (pm.mem_iff.mp hu) with rfl | hu
      · exact List.mem_append_right _ (List.mem_singleton.mpr rfl)
      · exact List.mem_append_left _ (g.of u hu)
    · rw [nx] at hu
      refine (pm.map (·.2)).mem_iff.mpr ?_
      rcases List.mem_append.mp hu with hu | hu
      · exact List.mem_cons_of_mem _ (g.all u hu)
      · rw [List.mem_singleton.mp hu]
        exact List.mem_cons_self
section
variable {P : Program} {w : World} {A : Around} {E : Value → Shared → Prop} {s : Shared}
theorem IsTup.kept {h h' : Heap} {k : List Key} {b : Addr} (x : IsTup P w h k b) (keep : ∀ c o, h.get? c = some o → h'.get? c = some o) : IsTup P w h' k b := by
  obtain ⟨o, its, n, ho, r⟩ := x
  exact ⟨o, its, n, keep b o ho, r⟩
theorem TupSet.kept {h h' : Heap} {a : Addr} {L : List (Addr × List Key)} {es : Array (Int × Value)} {ep : Nat} {t : SetTable} (R : TupSet P w h a L es ep t) (ka : ∀ o, h.get? a = some o → h'.get? a = some o) (tu : ∀ e ∈ L, IsTup P w h' e.2 e.1) : TupSet P w h' a L es ep t := by
  obtain ⟨⟨o, ho, r⟩, h2, h3, h4, h5, _, h7, h8, h9⟩ := R
  exact ⟨⟨o, ka o ho, r⟩, h2, h3, h4, h5, tu, h7, h8, h9⟩
theorem brought {It : Addr} {fp wr : List Addr} {G : Array GenState → Array GenState → Prop} {n : Nat} {Pv : Nat → Value → Prop} {St : Nat → Shared → Prop} {R : Result → Shared → Prop}
    (W : WalksS P w A.in1 It fp wr G n Pv St) (D : Addr) (Df : D ∉ fp) (ks : List (Addr × List Key)) (en : n = ks.length) (few : ks.length < 300) (given : ∀ i v, Pv i v → ∃ e, ks[i]? = some e ∧ v = .ref e.1)
    (h0 : Heap) (tk : ∀ e ∈ ks, IsTup P w h0 e.2 e.1) (D0 : h0.get? D = none) (wr0 : ∀ b ∈ wr, h0.get? b = none) (hu : A.in1.units < cLine) :
    ∀ (left i : Nat) (s : Shared), n - i = left → i ≤ n → St i s → (∀ b o, h0.get? b = some o → s.heap.get? b = some o) → (∃ L es ep t, TupSet P w s.heap D L es ep t ∧ Sofar ks i L) →
      (∀ s' L es ep t, Moved (D :: wr) G s s' → TupSet P w s'.heap D L es ep t → Sofar ks n L → (∀ b o, h0.get? b = some o → s'.heap.get? b = some o) → R (.ok (.ret .none)) s') →
      codeAny (model P w) A (.builtin "set.update.loop" ⟨[.ref D, .ref It], []⟩) R s := by
  have Dw : D ∉ wr := fun h => Df (W.sub _ h)
  have wider : ∀ b ∈ wr, b ∈ D :: wr := fun b hb => List.mem_cons_of_mem _ hb
  have hold : ∀ {u u' : Shared}, Moved wr G u u' → (∀ b o, h0.get? b = some o → u.heap.get? b = some o) → ∀ b o, h0.get? b = some o → u'.heap.get? b = some o := fun mv kp b o e =>
    mv.heap b o (fun hb => by rw [wr0 b hb] at e; cases e) (kp b o e)
  have in_ks : ∀ {i : Nat} {L : List (Addr × List Key)}, Sofar ks i L → ∀ e ∈ L, e ∈ ks := fun g e he => List.mem_of_mem_take (g.of e he)
  intro left
  induction left with
  | zero =>
    intro i s el hi st kp ⟨L, es, ep, t, hD, g⟩ fin
    obtain rfl : i = n := by omega
    refine codeAny_builtin F.entry_set_update_loop ?_
    rw [Around.under_plainId F.plain_set_update_loop _]
    show wpAny (model P w) A.in1 (pyNext (.ref It) >>= _) _ _ s
    refine wpAny_bind (W.done s _ _ st fun u mv => ?_)
    show wpAny (model P w) A.in1 (ret Value.none) _ _ u
    have kp' := hold mv kp
    exact wpAny_pure (fin u L es ep t (mv.mono wider) (hD.kept (fun o e => mv.heap D o Dw e) fun e he => (tk e (in_ks g e he)).kept kp') g kp')
  | succ left ih =>
    intro i s el hi st kp ⟨L, es, ep, t, hD, g⟩ fin
    have lt : i < n := by omega
    refine codeAny_builtin F.entry_set_update_loop ?_
    rw [Around.under_plainId F.plain_set_update_loop _]
    show wpAny (model P w) A.in1 (pyNext (.ref It) >>= _) _ _ s
    refine wpAny_bind (W.item i s _ _ lt st fun v u hv st' mv => ?_)
    obtain ⟨e, he, rfl⟩ := given i v hv
    have kp' := hold mv kp
    have hD' : TupSet P w u.heap D L es ep t := hD.kept (fun o q => mv.heap D o Dw q) fun z hz => (tk z (in_ks g z hz)).kept kp'
    have hx : IsTup P w u.heap e.2 e.1 := (tk e (List.mem_of_getElem? he)).kept kp'
    show wpAny (model P w) A.in1 (holding [Value.ref e.1] (setAdd D (.ref e.1)) >>= _) _ _ u
    refine wpAny_bind (wpAny_holding ?_)
    unfold setAdd
    refine wpAny_holding (wpAny_bind (wpAny_pyHash_tuple hu hx ?_))
    refine add_tup (s := { u with toks := u.toks + (e.2.length + 1) }) hD' hx hu (by have := g.len; omega) fun c h' L' es' ep' t' sb hD2 c1 c2 => ?_
    have kp2 : ∀ b o, h0.get? b = some o → h'.get? b = some o := fun b o q => (sb.2 b (fun z => by rw [z, D0] at q; cases q)).trans (kp' b o q)
    refine wpAny_pure ⟨plainId_quiet F.plain_set_update_loop _, ih (i + 1) _ (by omega) lt (W.frame _ u _ _ st' (Nat.le_add_right _ _) fun b hb o q => ?_) kp2 ⟨L', es', ep', t', hD2, g.step he c1 c2⟩ fun u2 L2 es2 ep2 t2 mv2 hD3 g2 kp3 => ?_⟩
    · rw [sb.2 b fun z => Df (z ▸ hb)]
      exact q
    · refine fin u2 L2 es2 ep2 t2 (Moved.trans W.gtrans ((mv.mono wider).then_heap (Nat.le_add_right _ _) fun b o hb q => ?_) mv2) hD3 g2 kp3
      rw [sb.2 b fun z => hb (z ▸ List.mem_cons_self)]
      exact q
set_option maxRecDepth 100000 in
theorem set_of_tups {l : Addr} {items : Array Value} (ks : List (Addr × List Key)) {Q : Value → Shared → Prop} (calm : A.handled = none) (hl : s.heap.IsList l items) (hit : items.toList = ks.map fun e => Value.ref e.1) (tk : ∀ e ∈ ks, IsTup P w s.heap e.2 e.1) (few : ks.length < 300) (hu : A.units + 3 < cLine)
    (q : ∀ (h' : Heap) (tk : Nat) L es ep t, TupSet P w h' s.heap.objs.size L es ep t → Sofar ks ks.length L → (∀ b o, s.heap.get? b = some o → h'.get? b = some o) → Q (.ref s.heap.objs.size) { s with heap := h', toks := tk }) :
    wpAny (model P w) A (call (.type "set") [.ref l]) Q E s := by
  have isz : items.size = ks.length := by
    rw [← Array.length_toList, hit, List.length_map]
  obtain ⟨c, tl, hmro⟩ := F.called_set.mro
  have hmade := F.called_set.made
  have hsub := F.called_set.sub
  refine wpAny_call (codeAny_of_tree ?_)
  show wpAny (model P w) _ (callAny (.type "set") _) _ _ s
  refine wpAny_pure ⟨Code.quiet_builtin _ (by decide +kernel), codeAny_builtin F.entry_type_call ?_⟩
  rw [Around.under_plain (weight_type_call_type "set" [.ref l] []) rfl]
  have h1 := F.called_set.notType
  have h2 := F.called_set.canCreate
  have hct := F.typeCall_set_1 (.ref l)
  repeat (any_goals (first | assumption | wp_step))
  refine codeAny_mono (code_set_led1 (.ref l) (E := E) (Q₁ := fun ob s₁ => ob = .ref s.heap.objs.size ∧ s₁ = { s with heap := s.heap.push (fresh w) }) ⟨rfl, rfl⟩) fun r s₁ hr => ?_
  cases r with
  | error e => exact hr
  | ok fl =>
    cases fl with
    | ret ob =>
      obtain ⟨rfl, rfl⟩ := hr
      have hS : (s.heap.push (fresh w)).get? s.heap.objs.size = some (fresh w) := Heap.get?_push_size _ rfl
      have hT : Shared.TypeIs { s with heap := s.heap.push (fresh w) } (.ref s.heap.objs.size) "set" := ⟨_, hS, rfl⟩
      have hli := F.called_set.init.lookup
      have hbi := F.called_set.init.bind (.ref s.heap.objs.size)
      repeat (any_goals (first | assumption | wp_step))
      refine codeAny_mono (codeAny_call_builtin (R := wants (fun r s₂ => r = .none ∧ ∃ h' tk L es ep t, s₂ = { s with heap := h', toks := tk } ∧ TupSet P w h' s.heap.objs.size L es ep t ∧ Sofar ks ks.length L ∧
          (∀ b o, s.heap.get? b = some o → h'.get? b = some o)) E) F.called_set.init.plain F.entry_set_init (check_set_init_1 hT ?_)) fun r₂ s₂ hr₂ => ?_
      · obtain ⟨ol, hol, hcl, nl, hdl⟩ := hl
        obtain ⟨ocls, odict, odata, oslots⟩ := ol
        simp only at hcl hdl
        subst hcl; subst hdl
        have hol' : (s.heap.push (fresh w)).get? l = some { cls := .type "list", dict := odict, data := .seq items nl, slots := oslots } := Heap.get?_push_of_some _ hol
        have hsls := F.sub_list_set
        have hslf := F.sub_list_frozenset
        have hne : (Value.type "list" == Value.type "dict") = false := by decide
        have hl1 : (s.heap.push (fresh w)).IsList l items := ⟨_, hol', rfl, nl, rfl⟩
        unfold Builtin.«set.__init__» noKeywords Builtin.Frozenset.updateFrom
        generalize hPI : pyIter = PI
        wp_walk
        subst hPI
        refine wpAny_pyIter_list hl1 ?_
        refine wpAny_bind (wpAny_runValue ?_)
        have lS : l < s.heap.objs.size := Heap.lt_size hol
        have calm3 : A.in1.in1.in1.handled = none := by simp [calm]
        have z1 : (s.heap.push (fresh w)).objs.size = s.heap.objs.size + 1 := Heap.size_push ..
        have lI : l ≠ (s.heap.push (fresh w)).objs.size := by
          rw [z1]
          exact Nat.ne_of_lt (Nat.lt_succ_of_lt lS)
        have Df : s.heap.objs.size ∉ [(s.heap.push (fresh w)).objs.size, l] := by
          rw [z1]
          simp only [List.mem_cons, List.not_mem_nil, or_false, not_or]
          exact ⟨Nat.ne_of_lt (Nat.lt_succ_self _), Nat.ne_of_gt lS⟩
        have given : ∀ (i : Nat) (v : Value), items[i]? = some v → ∃ e, ks[i]? = some e ∧ v = .ref e.1 := fun i v hv => by
          rw [← Array.getElem?_toList, hit, List.getElem?_map] at hv
          obtain ⟨e, e1, e2⟩ := Option.map_eq_some_iff.mp hv
          exact ⟨e, e1, e2.symm⟩
        have beyond : ∀ b, s.heap.objs.size ≤ b → s.heap.get? b = none := fun b hb => by
          cases z : s.heap.get? b with
          | none => rfl
          | some o => exact absurd (Nat.lt_of_lt_of_le (Heap.lt_size z) hb) (Nat.lt_irrefl _)
        refine brought ((Walks.list calm3 _ l lI items).toS) s.heap.objs.size Df ks isz few given s.heap tk (beyond _ (Nat.le_refl _)) (fun b hb => beyond b (by rw [List.mem_singleton.mp hb, z1]; exact Nat.le_succ _)) hu (items.size - 0) 0 _ (by omega) (Nat.zero_le _)
          ⟨⟨_, Heap.get?_push_size _ rfl, rfl, rfl⟩, (hl1.push _)⟩ (fun b o e => Heap.get?_push_of_some _ (Heap.get?_push_of_some _ e)) ?first ?last
        case first =>
          exact ⟨[], #[], 0, _, setT_new (Heap.get?_push_of_some _ hS), ⟨(fun e he => nomatch he), (fun e he => by simp at he), Nat.le_refl _⟩⟩
        case last =>
          intro u L es ep t mv hD g kp
          obtain ⟨h', g2, d', tk', os'⟩ := u
          obtain rfl : g2 = s.gens := mv.gens
          obtain rfl : d' = s.drawn := mv.drawn
          obtain rfl : os' = s.os := mv.os
          refine wpAny_pure ?_
          show wpAny (model P w) _ (ret Value.none) _ _ _
          rw [isz] at g
          exact wpAny_pure ⟨rfl, h', tk', L, es, ep, t, rfl, hD, g, kp⟩
      · cases r₂ with
        | error e => exact hr₂
        | ok fl₂ =>
          cases fl₂ with
          | ret r =>
            obtain ⟨rfl, h', tk, L, es, ep, t, rfl, hD, g, kp⟩ := hr₂
            repeat (any_goals (first | assumption | wp_step))
            exact q _ _ _ _ _ _ hD g kp
          | _ => exact hr₂.elim
    | _ => exact hr.elim
end
theorem refs_at' : ∀ {ks : List (Addr × List Key)} {us : List Value}, Vals (ks.map fun e => V.ref e.1) us → us = ks.map fun e => Value.ref e.1
  | [], _, .nil => rfl
  | e :: ks, _, .cons r t => by
    cases r
    rw [refs_at' t]
    rfl
/-- set(xs) -/
def rSetT (K : PySem.W.Frag) (P : Program) (w : World) : List V → Hp → VK → Prop := fun xs H Q => ∃ (l : Addr) (ks : List (Addr × List Key)), xs = [V.ref l] ∧ SqL K H l (ks.map fun e => V.ref e.1) ∧ Stand H ks ∧ ks.length < 300 ∧
  ∀ a L, H a = none → (∀ e ∈ L, e ∈ ks) → (∀ e ∈ ks, e.2 ∈ L.map (·.2)) → (L.map (·.2)).Nodup → Q (.ref a) (upd H a (SetTO' P w a L))
theorem cr_setT {X : Cx} (calm : X.calm = true) (hu : X.A.units + 3 < cLine) : CallR X (.type "set") (rSetT X.K X.prog X.w) := by
  rintro pins s σ H xs us Q I r ⟨l, ks, rfl, hl, st, few, q⟩
  rw [Vals.ref1 r]
  obtain ⟨its, rv, pl, hz⟩ := I.list hl
  refine set_of_tups (P := X.prog) (w := X.w) ks (I.ok.hd calm) pl.isList (by simpa using refs_at' rv) (stand_tups I.hok st) few hu fun h' tk L es ep t R g k => ?_
  exact ⟨.ref s.heap.objs.size, upd H s.heap.objs.size (SetTO' X.prog X.w s.heap.objs.size L), I.laid (t' := tk) k (Nat.le_refl _) (setT_ok R.at_), rfl, q _ L (I.hok.fresh (Nat.le_refl _)) (fun e he => List.mem_of_mem_take (g.of e he)) (fun e he => g.all e (by rw [List.take_length]; exact he)) R.unlike⟩
end Yt

set_option Elab.async false
set_option linter.all false
set_option maxRecDepth 100000
set_option maxHeartbeats 2000000
namespace Yt
open PySem PySem.Spec PyProof.Rows L2
/-! ### rows of texts, as they ascend -/
def rlt : List Str → List Str → Bool
  | x :: xs, y :: ys => if x = y then rlt xs ys else ltCps x.cps.toList y.cps.toList
  | _, _ => false
theorem cps_eq {x y : Str} (h : x.cps.toList = y.cps.toList) : x = y := by
  cases x
  cases y
  simpa using h
theorem rlt_irr : ∀ x : List Str, rlt x x = false
  | [] => rfl
  | x :: xs => by
    show (if x = x then rlt xs xs else _) = false
    rw [if_pos rfl, rlt_irr xs]
theorem rlt_tot : ∀ {x y : List Str}, x.length = y.length → x ≠ y → rlt x y = false → rlt y x = true
  | [], [], _, h, _ => absurd rfl h
  | x :: xs, y :: ys, l, h, k => by
    have k : (if x = y then rlt xs ys else ltCps x.cps.toList y.cps.toList) = false := k
    show (if y = x then rlt ys xs else ltCps y.cps.toList x.cps.toList) = true
    by_cases e : x = y
    · rw [if_pos e] at k
      rw [if_pos e.symm]
      exact rlt_tot (Nat.succ.inj l) (fun q => h (by rw [e, q])) k
    · rw [if_neg e] at k
      rw [if_neg (Ne.symm e)]
      exact lt_tot _ _ (fun q => e (cps_eq (x := x) (y := y) (by first | exact q | exact q.symm))) k
theorem rlt_tr : ∀ {x y z : List Str}, rlt x y = true → rlt y z = true → rlt x z = true
  | [], _, _, h, _ => by cases h
  | _ :: _, [], _, h, _ => by cases h
  | _ :: _, _ :: _, [], _, h => by cases h
  | x :: xs, y :: ys, z :: zs, h, k => by
    have h : (if x = y then rlt xs ys else ltCps x.cps.toList y.cps.toList) = true := h
    have k : (if y = z then rlt ys zs else ltCps y.cps.toList z.cps.toList) = true := k
    show (if x = z then rlt xs zs else ltCps x.cps.toList z.cps.toList) = true
    by_cases e : x = y
    · subst e
      rw [if_pos rfl] at h
      by_cases f : x = z
      · rw [if_pos f] at k ⊢
        exact rlt_tr h k
      · rw [if_neg f] at k ⊢
        exact k
    · rw [if_neg e] at h
      by_cases f : y = z
      · subst f
        rw [if_neg e]
        exact h
      · rw [if_neg f] at k
        have t := lt_tr h k
        rw [if_neg (fun q => by rw [q, lt_irr] at t; cases t)]
        exact t
def Up (rs : List (List Str)) : Prop := rs.Pairwise fun a b => rlt a b = true
theorem Up.nodup {rs : List (List Str)} (h : Up rs) : rs.Nodup := List.Pairwise.imp (fun {a b} q e => by
  rw [e, rlt_irr] at q
  cases q) h
theorem up_uniq : ∀ {xs ys : List (List Str)}, Up xs → Up ys → xs.Perm ys → xs = ys
  | [], ys, _, _, p => (List.nil_perm.mp p).symm
  | x :: xs, [], _, _, p => absurd p.length_eq (by simp)
  | x :: xs, y :: ys, hx, hy, p => by
    have h1 := List.pairwise_cons.mp hx
    have h2 := List.pairwise_cons.mp hy
    have e : x = y := by
      rcases List.mem_cons.mp (p.mem_iff.mp List.mem_cons_self) with e | mx
      · exact e
      · rcases List.mem_cons.mp (p.mem_iff.mpr List.mem_cons_self) with e | my
        · exact e.symm
        · have := rlt_tr (h2.1 x mx) (h1.1 y my)
          rw [rlt_irr] at this
          cases this
    subst e
    rw [up_uniq h1.2 h2.2 ((List.perm_cons x).mp p)]
/-! ### as the machine compares them -/
def rowD (x : List Str) : PyData := .tuple (x.map PyData.str)
theorem row_lex : ∀ {x y : List Str}, x.length = y.length → PyProof.Rows.lexLt PyProof.Rows.itemOrd (PySem.W.keyToksAll (x.map PyData.str)) (PySem.W.keyToksAll (y.map PyData.str)) = rlt x y
  | [], [], _ => lex_irrefl _
  | x :: xs, y :: ys, l => by
    rw [List.map_cons, List.map_cons, PySem.W.dataLt_cons (by simp [PySem.W.alike]), row_lex (Nat.succ.inj l), PySem.W.dataLt_str]
    show _ = if x = y then rlt xs ys else ltCps x.cps.toList y.cps.toList
    rw [PyProof.Rows.ltCps_eq]
    by_cases e : x = y
    · subst e
      rw [if_pos rfl, if_pos (by simp [PyData.eqv])]
    · rw [if_neg e, if_neg (by simpa [PyData.eqv] using e)]
theorem row_lt {x y : List Str} (l : x.length = y.length) : PySem.W.dataLt (rowD x) (rowD y) = rlt x y := by
  unfold rowD
  rw [PySem.W.dataLt_tuple]
  exact row_lex l
theorem sorted_up {β : Type} {row : β → List Str} {d : Nat} {bs : List β} (len : ∀ b ∈ bs, (row b).length = d) (nd : (bs.map row).Nodup) : Up ((bs.mergeSort (PySem.W.dataLe false fun b => rowD (row b))).map row) := by
  have pm := List.mergeSort_perm bs (PySem.W.dataLe false fun b => rowD (row b))
  have pw := PySem.W.sort_pairwise (PySem.W.sortLe_total (PyProof.Rows.listOrd PyProof.Rows.itemOrd) false fun b : β => PySem.W.keyToks (rowD (row b))) bs
  have nd' : ((bs.mergeSort (PySem.W.dataLe false fun b => rowD (row b))).map row).Pairwise (· ≠ ·) := (pm.map row).nodup_iff.mpr nd
  unfold Up
  rw [List.pairwise_map] at nd' ⊢
  refine List.Pairwise.imp_of_mem ?_ (List.Pairwise.and pw nd')
  rintro a b ha hb ⟨h1, h2⟩
  have h1 : (!PySem.W.dataLt (rowD (row b)) (rowD (row a))) = true := h1
  have la := len a (pm.mem_iff.mp ha)
  have lb := len b (pm.mem_iff.mp hb)
  rw [row_lt (by rw [la, lb])] at h1
  exact rlt_tot (by rw [la, lb]) (Ne.symm h2) (by simpa using h1)
end Yt

set_option Elab.async false
set_option linter.all false
set_option maxRecDepth 100000
set_option maxHeartbeats 2000000
namespace Yt
open PySem PySem.Spec PyProof.Rows L2
/-! ### sorted(..) of rows: of a set, of a list, of a dict's keys -/
abbrev kR (x : List Str) : List Key := x.map Sum.inr
theorem kR_V (x : List Str) : (kR x).map kV = x.map V.str := by
  unfold kR
  rw [List.map_map]
  rfl
theorem kR_inj {x y : List Str} (h : kR x = kR y) : x = y := by
  have := congrArg (List.map fun k : Key => match k with | .inr z => z | .inl _ => ("" : Str)) h
  unfold kR at this
  rw [List.map_map, List.map_map] at this
  have e : ((fun k : Key => match k with | .inr z => z | .inl _ => ("" : Str)) ∘ (Sum.inr : Str → Key)) = id := rfl
  rwa [e, List.map_id, List.map_id] at this
abbrev keyed (M : List (Addr × List Str)) : List (Addr × List Key) := M.map fun e => (e.1, kR e.2)
section
variable {P : Program} {w : World} {A : Around} {E : Value → Shared → Prop} {s : Shared}
theorem reads_items {h : Heap} : ∀ {x : List Str} {vs : List Value}, ItemsAre (mixKind P w) (kR x) vs → ReadsAll h vs (x.map PyData.str) []
  | [], [], _ => .nil
  | [], _ :: _, h => nomatch h
  | _ :: _, [], h => nomatch h
  | z :: x, v :: vs, .cons h1 t => by
    rcases keyIs_shape (show keyIs (.inr z) v = true from h1) with ⟨i, t, e, _⟩ | ⟨y, tk, e, rfl⟩
    · cases e
    · cases e
      exact ReadsAll.cons (.str _ _) (reads_items t)
theorem reads_row {h : Heap} {b : Addr} {x : List Str} (hk : IsTup P w h (kR x) b) : Reads h (.ref b) (rowD x) [] := by
  obtain ⟨o, its, n, ho, hc, hd, hi⟩ := hk
  exact .tuple ho hc hd (reads_items hi)
theorem row_depth : ∀ x : List Str, PyData.depthAll (x.map PyData.str) = 0
  | [] => by simp only [List.map_nil, PyData.depthAll]
  | z :: x => by
    rw [List.map_cons, PyData.depthAll, row_depth x]
    simp [PyData.depth]
theorem alike_rows : ∀ x y : List Str, PySem.W.alikeAll (x.map PyData.str) (y.map PyData.str) = true
  | [], _ => by simp [PySem.W.alikeAll]
  | _ :: _, [] => by simp [PySem.W.alikeAll]
  | z :: x, v :: y => by
    rw [List.map_cons, List.map_cons, PySem.W.alikeAll, alike_rows x y]
    simp [PySem.W.alike]
theorem alike_all {M : List (Addr × List Str)} : PySem.W.AllAlike (M.map fun e => rowD e.2) :=
  PySem.W.AllAlike.of fun a b => by
    unfold rowD
    rw [PySem.W.alike]
    exact alike_rows a.2 b.2
theorem rows_sortable {M : List (Addr × List Str)} {d : Nat} (len : ∀ e ∈ M, e.2.length = d + 1) : PySem.W.Sortable (M.map fun e => rowD e.2) := by
  refine .inl fun y hy => ?_
  obtain ⟨e, he, rfl⟩ := List.mem_map.mp hy
  have l := len e he
  match h : e.2, l with
  | z :: x, _ => exact ⟨.str z, x.map PyData.str, rfl⟩
theorem each_refs {R : Value → Addr × List Str → Prop} : ∀ {M : List (Addr × List Str)}, (∀ e ∈ M, R (.ref e.1) e) → PySem.W.EachIs R (M.map fun e => Value.ref e.1) M
  | [], _ => .nil
  | e :: M, h => .cons (h e List.mem_cons_self) (each_refs fun u hu => h u (List.mem_cons_of_mem _ hu))
theorem refs_each : ∀ {out : List Value} {M : List (Addr × List Str)}, PySem.W.EachIs (fun v (e : Addr × List Str) => v = Value.ref e.1) out M → out = M.map fun e => Value.ref e.1
  | _, _, .nil => rfl
  | _, _, .cons h t => by rw [h, refs_each t] <;> rfl
theorem sort_in_place {l : Addr} {n d : Nat} {M : List (Addr × List Str)} {Q : Value → Shared → Prop} (ho : s.heap.get? l = some (seqObj "list" (M.map fun e => Value.ref e.1).toArray n)) (tu : ∀ e ∈ M, IsTup P w s.heap (kR e.2) e.1) (len : ∀ e ∈ M, e.2.length = d + 1) (nd : (M.map (·.2)).Nodup) (few : M.length ≤ sizeLine) (hu : A.units + 3 < cLine)
    (q : ∀ M' : List (Addr × List Str), M'.Perm M → Up (M'.map (·.2)) → Q .none { s with heap := sortedHeap s.heap l (M.map fun e => Value.ref e.1) (M'.map fun e => Value.ref e.1).toArray }) :
    wpAny (model P w) A (call (.builtin "list.sort") [.ref l]) Q E s := by
  refine PySem.W.list_sort_data (R := fun v e => v = Value.ref e.1) (enc := fun e : Addr × List Str => rowD e.2) ho (each_refs fun e he => rfl) (each_refs fun e he => ⟨[], reads_row (tu e he), by simp⟩) alike_all (rows_sortable len) few (fun e he => ?_) fun out lo each => ?_
  · unfold rowD
    rw [PyData.depth, row_depth]
    omega
  · have := refs_each each
    subst this
    have pm := List.mergeSort_perm M (PySem.W.dataLe false fun e : Addr × List Str => rowD e.2)
    exact q _ pm (sorted_up (d := d + 1) len nd)
end
theorem vals_rows : ∀ M : List (Addr × List Str), Vals (M.map fun e => V.ref e.1) (M.map fun e => Value.ref e.1)
  | [] => .nil
  | e :: M => .cons rfl (vals_rows M)
section
variable {X : Cx}
/-- what comes behind the collecting -/
theorem sorted_tail {pins : List (Addr × Obj)} {σ : L2.St} {H : Hp} {s1 : Shared} {Q : VK} {d : Nat} {M : List (Addr × List Str)} {E : Value → Shared → Prop} (I1 : Inv X pins σ H s1) (tu : ∀ e ∈ M, IsTup X.prog X.w s1.heap (kR e.2) e.1) (len : ∀ e ∈ M, e.2.length = d + 1) (nd : (M.map (·.2)).Nodup) (few : M.length < 300) (hu : X.A.units + 4 < cLine)
    (q : ∀ (M' : List (Addr × List Str)) (p : Addr), M'.Perm M → Up (M'.map (·.2)) → H p = none → Q (.ref p) (upd H p (.lst (M'.map fun e => V.ref e.1)))) :
    wpAny (model X.prog X.w) X.A.in1 (newList (M.map fun e => Value.ref e.1) >>= fun l => holding [l] (call (.builtin "list.sort") [l] []) >>= fun _ => ret l) (fun fin t => ∃ v, fin = Fin.done (Flow.ret v) ∧ EP X pins σ Q v t) E s1 := by
  have ml : M.length ≤ sizeLine := by
    rw [sizeLine_eq]
    omega
  refine wpAny_bind (wpAny_newList ?_ (by rw [List.length_map]; exact ml))
  have hoL : (s1.heap.push (seqObj "list" (M.map fun e => Value.ref e.1).toArray 0)).get? s1.heap.objs.size = some (seqObj "list" (M.map fun e => Value.ref e.1).toArray 0) := Heap.get?_push_size _ rfl
  refine wpAny_bind (wpAny_holding (sort_in_place (d := d) (s := { s1 with heap := s1.heap.push (seqObj "list" (M.map fun e => Value.ref e.1).toArray 0) }) hoL (fun e he => (tu e he).kept fun b o z => Heap.get?_push_of_some _ z) len nd ml (by show X.A.units + 1 + 3 < cLine; omega) fun M' pm up => ?_))
  obtain ⟨e', he'⟩ := sortedHeap_at (vs := M.map fun e => Value.ref e.1) (out := (M'.map fun e => Value.ref e.1).toArray) hoL
  refine wpAny_pure ⟨_, rfl, .ref s1.heap.objs.size, upd H s1.heap.objs.size (.lst (M'.map fun e => V.ref e.1)), I1.laid (t' := s1.toks) (fun b u e => ?_) (Nat.le_refl _) (show ObjOk X.prog X.w _ _ _ (.lst _) from ⟨by rw [List.length_map, pm.length_eq]; exact ml, _, e', vals_rows M', by simpa using he'⟩), rfl, q M' _ pm up (I1.hok.fresh (Nat.le_refl _))⟩
  have hb : b < s1.heap.objs.size := Heap.lt_size e
  rw [sortedHeap_old (Nat.ne_of_lt hb) (by rw [size_push']; exact Nat.lt_succ_of_lt hb)]
  exact Heap.get?_push_of_some _ e
end
end Yt

set_option Elab.async false
set_option linter.all false
set_option maxRecDepth 100000
set_option maxHeartbeats 2000000
namespace Yt
open PySem PySem.Spec PyProof.Rows L2
section
variable {X : Cx}
theorem out_perm {out : List Value} {M : List (Addr × List Str)} (p : out.Perm (M.map fun e => Value.ref e.1)) : ∃ M' : List (Addr × List Str), out = (M'.map fun e => Value.ref e.1) ∧ M'.Perm M := map_perm' p M rfl
where
  map_perm' {xs zs : List Value} (hp : xs.Perm zs) : ∀ (ts : List (Addr × List Str)), zs = (ts.map fun e => Value.ref e.1) → ∃ ts' : List (Addr × List Str), xs = (ts'.map fun e => Value.ref e.1) ∧ ts'.Perm ts := by
    induction hp with
    | nil =>
      intro ts e
      cases ts with
      | nil => exact ⟨[], rfl, List.Perm.refl _⟩
      | cons t ts => cases e
    | cons x _ ih =>
      intro ts e
      cases ts with
      | nil => cases e
      | cons t ts =>
        rw [List.map_cons, List.cons.injEq] at e
        obtain ⟨ts', e1, p1⟩ := ih _ e.2
        exact ⟨t :: ts', by rw [e.1, e1] <;> rfl, .cons _ p1⟩
    | swap x y l =>
      intro ts e
      match ts with
      | [] => cases e
      | [_] => cases e
      | t :: u :: ts =>
        rw [List.map_cons, List.map_cons, List.cons.injEq, List.cons.injEq] at e
        exact ⟨u :: t :: ts, by rw [e.1, e.2.1, e.2.2] <;> rfl, .swap _ _ _⟩
    | trans _ _ ih1 ih2 =>
      intro ts e
      obtain ⟨ts2, e2, p2⟩ := ih2 _ e
      obtain ⟨ts1, e1, p1⟩ := ih1 _ e2
      exact ⟨ts1, e1, p1.trans p2⟩
/-- the rows M stand in the heap, all of one width -/
structure RowsIn (H : Hp) (d : Nat) (M : List (Addr × List Str)) : Prop where
  at_ : ∀ e ∈ M, H e.1 = some (.tup (e.2.map V.str))
  len : ∀ e ∈ M, e.2.length = d + 1
  few : M.length < 300
theorem RowsIn.stand {H : Hp} {d : Nat} {M : List (Addr × List Str)} (R : RowsIn H d M) : Stand H (keyed M) := fun e he => by
  obtain ⟨u, hu, rfl⟩ := List.mem_map.mp he
  show H u.1 = some (.tup ((kR u.2).map kV))
  rw [kR_V]
  exact R.at_ u hu
theorem RowsIn.perm {H : Hp} {d : Nat} {M M' : List (Addr × List Str)} (R : RowsIn H d M) (p : M'.Perm M) : RowsIn H d M' := ⟨fun e he => R.at_ e (p.mem_iff.mp he), fun e he => R.len e (p.mem_iff.mp he), by rw [p.length_eq]; exact R.few⟩
theorem RowsIn.to {H H' : Hp} {d : Nat} {M : List (Addr × List Str)} (R : RowsIn H d M) (s : Same H H') : RowsIn H' d M := ⟨fun e he => s _ _ (R.at_ e he), R.len, R.few⟩
theorem RowsIn.tups {P : Program} {w : World} {H : Hp} {h : Heap} {d : Nat} {M : List (Addr × List Str)} (R : RowsIn H d M) (hok : HOk P w H h) : ∀ e ∈ M, IsTup P w h (kR e.2) e.1 := fun e he =>
  stand_tups hok R.stand (e.1, kR e.2) (List.mem_map.mpr ⟨e, he, rfl⟩)
/-- what sorted tells of rows -/
abbrev SortedQ (H : Hp) (M : List (Addr × List Str)) (Q : VK) : Prop := ∀ (M' : List (Addr × List Str)) (p : Addr), M'.Perm M → Up (M'.map (·.2)) → H p = none → Q (.ref p) (upd H p (.lst (M'.map fun e => V.ref e.1)))
def rSortSet (P : Program) (w : World) : List V → Hp → VK → Prop := fun vs H Q => ∃ (a : Addr) (M : List (Addr × List Str)) (d : Nat), vs = [V.ref a] ∧ H a = some (SetTO' P w a (keyed M)) ∧ RowsIn H d M ∧ SortedQ H M Q
theorem cr_sortSet (calm : X.calm = true) (hu : X.A.units + 4 < cLine) : CallR X (.builtin "sorted") (rSortSet X.prog X.w) := by
  rintro pins s σ H vs us Q I r ⟨a, M, d, rfl, ha, R, q⟩
  obtain ⟨es, ep, t, T⟩ := setT_with (I.hok a _ ha).1 (stand_tups I.hok R.stand)
  obtain ⟨o, ho, hx, hd⟩ := T.there
  rw [Vals.ref1 r]
  refine Calls.call_function_entry kind_sorted plain_sorted entry_sorted (args_sorted1 _) ?_
  unfold Builtin.«sorted»
  refine wpAny_bind (m := checkCount "sorted" 1 1 _) (wpAny_pure (wpAny_bind (collect_set (A := X.A.in1) (I.ok.hd calm) ⟨o, ho, hx.1, hd⟩ T.fits (by rw [T.size]; exact Nat.lt_of_lt_of_le T.few (by decide)) T.seats.up T.led fun s1 out k1 z1 g1 o1 p1 => ?_)))
  have I1 : Inv X pins σ H s1 := I.call' (ch := []) o1 (Un.kept k1) (I.hok.kept k1) (by rw [g1]; exact I.bare) fun _ z => nomatch z
  have eo : (es.toList.map (·.2)) = M.map fun e => Value.ref e.1 := by
    rw [T.rows, rowsT, List.map_map, List.map_map]
    rfl
  rw [eo] at p1
  obtain ⟨M1, rfl, pm⟩ := out_perm p1
  have R1 := R.perm pm
  have nd : (M1.map (·.2)).Nodup := by
    refine (pm.map (·.2)).nodup_iff.mpr ?_
    have u := T.unlike
    rw [List.map_map] at u
    refine List.Pairwise.of_map (R := (· ≠ ·)) (S := (· ≠ ·)) kR (fun x y n e => n (congrArg kR e)) ?_
    rw [List.map_map]
    exact u
  exact sorted_tail (d := d) I1 (R1.tups I1.hok) R1.len nd R1.few hu (fun M' p pm' up np => q M' p (pm'.trans pm) up np)
theorem units_le {a b n : Nat} (h : n + b < cLine) (l : a ≤ b) : n + a < cLine := by omega
/-- sorted(xs), xs a list of unlike rows -/
def rSortList (K : PySem.W.Frag) : List V → Hp → VK → Prop := fun vs H Q => ∃ (a : Addr) (M : List (Addr × List Str)) (d : Nat), vs = [V.ref a] ∧ SqL K H a (M.map fun e => V.ref e.1) ∧ RowsIn H d M ∧ (M.map (·.2)).Nodup ∧ SortedQ H M Q
theorem refs_back : ∀ {M : List (Addr × List Str)} {us : List Value}, Vals (M.map fun e => V.ref e.1) us → us = M.map fun e => Value.ref e.1
  | [], _, .nil => rfl
  | e :: M, _, .cons r t => by
    cases r
    rw [refs_back t]
    rfl
theorem cr_sortList (calm : X.calm = true) (hu : X.A.units + 4 < cLine) : CallR X (.builtin "sorted") (rSortList X.K) := by
  rintro pins s σ H vs us Q I r ⟨a, M, d, rfl, ha, R, nd, q⟩
  obtain ⟨its, rv, pl, hz⟩ := I.list ha
  obtain rfl := refs_back rv
  rw [Vals.ref1 r]
  refine Calls.call_function_entry kind_sorted plain_sorted entry_sorted (args_sorted1 _) ?_
  unfold Builtin.«sorted»
  refine wpAny_bind (m := checkCount "sorted" 1 1 _) (wpAny_pure (wpAny_bind (collect_list (A := X.A.in1) pl.isList ?_ (by rw [List.length_map]; have := R.few; rw [sizeLine_eq]; omega))))
  have I1 : Inv X pins σ H { s with heap := (s.heap.push (seqObj "list" #[] 0)).update s.heap.objs.size (Obj.mapSeq (· ++ (M.map fun e => Value.ref e.1).toArray)), toks := s.toks } := I.kept fun b o e => by
    rw [Heap.get?_update_ne _ _ _ _ (Nat.ne_of_lt (Heap.lt_size e))]
    exact Heap.get?_push_of_some _ e
  exact sorted_tail (d := d) I1 (R.tups I1.hok) R.len nd R.few hu q
/-- sorted(d), d a dict whose keys are rows -/
def rSortDict : List V → Hp → VK → Prop := fun vs H Q => ∃ (a : Addr) (kvs : List (List Key × V)) (d : Nat), vs = [V.ref a] ∧ H a = some (.dT kvs) ∧ (kvs.map (·.1)).Nodup ∧ kvs.length < 300 ∧ (∀ e ∈ kvs, ∃ x : List Str, e.1 = kR x ∧ x.length = d + 1) ∧
  ∀ M : List (Addr × List Str), (M.map fun e => kR e.2) = kvs.map (·.1) → RowsIn H d M → SortedQ H M Q
theorem cr_sortDict (calm : X.calm = true) (hu : X.A.units + 4 < cLine) : CallR X (.builtin "sorted") rSortDict := by
  rintro pins s σ H vs us Q I r ⟨a, kvs, d, rfl, ha, nd, few, form, q⟩
  obtain ⟨z, hs, ks, pr, o, es, ep, ho, hx, hdt, he, hn⟩ := (show ObjOk X.prog X.w H s.heap a (.dT kvs) from I.hok _ _ ha)
  have l1 : es.size = ks.length := size_of_entries he
  have l2 : kvs.length = ks.length := Paired.length pr
  rw [Vals.ref1 r]
  refine Calls.call_function_entry kind_sorted plain_sorted entry_sorted (args_sorted1 _) ?_
  unfold Builtin.«sorted»
  refine wpAny_bind (m := checkCount "sorted" 1 1 _) (wpAny_pure (wpAny_bind (PySem.W.kdu_collect (A := X.A.in1) (kdl_raw hs hx hdt) (I.ok.hd calm) ho (by rw [sizeLine_eq]; omega) fun h' tk acc keep got => ?_)))
  have ea : acc.toList = ks.map fun x => Value.ref x.2.1 := by
    have hl : acc.toList.length = ks.length := by rw [Array.length_toList, got.1, l1]
    refine List.ext_getElem? fun j => ?_
    rw [List.getElem?_map]
    cases hj : acc.toList[j]? with
    | none =>
      rw [List.getElem?_eq_none (by have := List.getElem?_eq_none_iff.mp hj; omega)]
      rfl
    | some v =>
      obtain ⟨en, hen, hv⟩ := got.2 j v (by rw [← Array.getElem?_toList]; exact hj)
      have qe := entry_at he j
      rw [hen] at qe
      cases hb : ks[j]? with
      | none =>
        rw [hb] at qe
        cases qe
      | some b =>
        rw [hb] at qe
        obtain rfl : en = entryOfKey (tupleKind (mixKind X.prog X.w)) b := Option.some.inj qe
        rw [hv]
        rfl
  have ik := isKeys_of pr
  obtain ⟨M, e1, e2, R⟩ : ∃ M : List (Addr × List Str), (M.map fun e => kR e.2) = kvs.map (·.1) ∧ (ks.map fun x => x.2.1) = M.map (·.1) ∧ RowsIn H d M := by
    have go : ∀ (kvs : List (List Key × V)) (bs : List Addr), IsKeys H kvs bs → (∀ e ∈ kvs, ∃ x : List Str, e.1 = kR x ∧ x.length = d + 1) →
        ∃ M : List (Addr × List Str), (M.map fun e => kR e.2) = kvs.map (·.1) ∧ bs = M.map (·.1) ∧ (∀ e ∈ M, H e.1 = some (.tup (e.2.map V.str))) ∧ ∀ e ∈ M, e.2.length = d + 1 := by
      intro kvs bs h
      induction h with
      | nil => exact fun _ => ⟨[], rfl, rfl, (fun e he => nomatch he), fun e he => nomatch he⟩
      | cons h1 _ ih =>
        intro fm
        obtain ⟨M, a1, a2, a3, a4⟩ := ih fun e he => fm e (List.mem_cons_of_mem _ he)
        obtain ⟨x, ex, lx⟩ := fm _ List.mem_cons_self
        refine ⟨(_, x) :: M, by rw [List.map_cons, List.map_cons, a1, ex], by rw [List.map_cons, a2], fun e he => ?_, fun e he => ?_⟩
        · rcases List.mem_cons.mp he with rfl | he
          · rw [ex, kR_V] at h1
            exact h1
          · exact a3 e he
        · rcases List.mem_cons.mp he with rfl | he
          · exact lx
          · exact a4 e he
    obtain ⟨M, a1, a2, a3, a4⟩ := go _ _ ik form
    refine ⟨M, a1, a2, a3, a4, ?_⟩
    have := congrArg List.length a1
    rw [List.length_map, List.length_map] at this
    omega
  have eb : acc.toList = M.map fun e => Value.ref e.1 := by
    have := congrArg (List.map Value.ref) e2
    rw [List.map_map, List.map_map] at this
    rw [ea]
    exact this
  have I1 : Inv X pins σ H { s with heap := h', toks := tk } := I.kept keep
  have nd' : (M.map (·.2)).Nodup := by
    rw [← e1] at nd
    refine List.Pairwise.of_map (R := (· ≠ ·)) (S := (· ≠ ·)) kR (fun x y n e => n (congrArg kR e)) ?_
    rw [List.map_map]
    exact nd
  rw [eb]
  exact sorted_tail (d := d) I1 (R.tups I1.hok) R.len nd' R.few hu (q M e1 R)
end
end Yt

set_option Elab.async false
set_option linter.all false
set_option maxRecDepth 100000
set_option maxHeartbeats 2000000
namespace Yt
open PySem PySem.Spec PyProof.Rows L2
/-! ### the class Table -/
abbrev sTable : Stmt := top 15
abbrev sIsRow : Stmt := top 16
abbrev sCheckWidth : Stmt := top 17
abbrev sTInit : Stmt := inClass sTable 0
abbrev sTMarks : Stmt := inClass sTable 1
abbrev sTWidth : Stmt := inClass sTable 2
abbrev sTRows : Stmt := inClass sTable 3
abbrev sTEq : Stmt := inClass sTable 4
abbrev MethP (K : PySem.W.Frag) (x : Str) (st : Stmt) (f : Addr) (fd : FuncData) : Prop := FunD K x (("Table." : Str) ++ x) (defArgs st) (defBody st) (defScope st) [] [] f fd
def tf (A : Addr) (w : Int) (R : Addr) : List (Str × V) := [("_marks", .ref A), ("_width", .int w), ("_rows", .ref R)]
theorem nMW : ¬ (("_marks" : Str) = "_width") := by decide +kernel
theorem nMR : ¬ (("_marks" : Str) = "_rows") := by decide +kernel
theorem nWR : ¬ (("_width" : Str) = "_rows") := by decide +kernel
theorem tf_make (A : Addr) (w : Int) (R : Addr) : putF "_rows" (.ref R) (putF "_width" (.int w) (putF "_marks" (.ref A) [])) = tf A w R := by
  show (if ("_marks" : Str) = "_rows" then _ else _) = _
  have e1 : putF "_width" (.int w) (putF "_marks" (.ref A) []) = [(("_marks" : Str), V.ref A), (("_width" : Str), V.int w)] := by
    show (if ("_marks" : Str) = "_width" then [(("_marks" : Str), V.int w)] else (("_marks" : Str), V.ref A) :: putF "_width" (V.int w) []) = _
    rw [if_neg nMW]
    rfl
  show putF "_rows" (.ref R) (putF "_width" (.int w) (putF "_marks" (.ref A) [])) = _
  rw [e1]
  show (if ("_marks" : Str) = "_rows" then _ else (("_marks" : Str), V.ref A) :: (if ("_width" : Str) = "_rows" then _ else (("_width" : Str), V.int w) :: putF "_rows" (V.ref R) [])) = _
  rw [if_neg nMR, if_neg nWR]
  rfl
theorem tf_len2 (A : Addr) (w : Int) : (putF "_width" (.int w) (putF "_marks" (.ref A) [])).length < 1000 := by
  show (if ("_marks" : Str) = "_width" then [(("_marks" : Str), V.int w)] else (("_marks" : Str), V.ref A) :: putF "_width" (V.int w) []).length < 1000
  rw [if_neg nMW]
  show 2 < 1000
  decide
theorem look2 {a b : Str} {x : V} {r : List (Str × V)} (h : ¬ a = b) : List.lookup a ((b, x) :: r) = List.lookup a r := by
  rw [List.lookup_cons, beq_eq_false_iff_ne.mpr h]
theorem look1 {a : Str} {x : V} {r : List (Str × V)} : List.lookup a ((a, x) :: r) = some x := by
  rw [List.lookup_cons, beq_self_eq_true]
theorem tf_marks (A : Addr) (w : Int) (R : Addr) : (tf A w R).lookup ("_marks" : Str) = some (.ref A) := look1
theorem tf_width (A : Addr) (w : Int) (R : Addr) : (tf A w R).lookup ("_width" : Str) = some (.int w) := by
  unfold tf
  rw [look2 (Ne.symm nMW), look1]
theorem tf_rows (A : Addr) (w : Int) (R : Addr) : (tf A w R).lookup ("_rows" : Str) = some (.ref R) := by
  unfold tf
  rw [look2 (Ne.symm nMR), look2 (Ne.symm nWR), look1]
theorem tf_no (A : Addr) (w : Int) (R : Addr) {m : Str} (h1 : ¬ m = "_marks") (h2 : ¬ m = "_width") (h3 : ¬ m = "_rows") : (tf A w R).lookup m = none := by
  unfold tf
  rw [look2 h1, look2 h2, look2 h3]
  rfl
/-- what is told of the class -/
structure TC (K : PySem.W.Frag) (mg : Str → Option Value) (C : Addr) : Prop where
  cl : Cls K C
  nM : NoAttr K C "_marks"
  nW : NoAttr K C "_width"
  nR : NoAttr K C "_rows"
  mgC : mg "Table" = some (.ref C)
  kit : PySem.W.kitOne K (.ref C) (.ref C) = some true
  a1 : PySem.W.findIn K (.ref C) "__class__" = some (some (.builtin "object.__class__"))
  a2 : PySem.W.specialIn K (.builtin "object.__class__") "__get__" = some (some (.builtin "getset_descriptor.__get__"))
  a3 : PySem.W.takesIn K (.builtin "object.__class__") = some true
  a4 : PySem.W.mroIn K C (.type "object") = some true
theorem TC.is {K : PySem.W.Frag} {mg : Str → Option Value} {C : Addr} (T : TC K mg C) {H : Hp} {a dx : Addr} {fs : List (Str × V)} (e : H a = some (.ins C dx fs)) : TyX K H (.ref a) (.ref C) := .base (.ins e T.cl T.a1 T.a2 T.a3 T.a4)
/-- the table at p: its marks, its width, its rows ascending -/
def TableAt (C : Addr) (H : Hp) (p : Addr) (ms : List Str) (d : Nat) (rs : List (List Str)) : Prop :=
  ∃ (dx A R : Addr) (M : List (Addr × List Str)), H p = some (.ins C dx (tf A ((d + 1 : Nat) : Int) R)) ∧ H A = some (.lst (ms.map V.str)) ∧ H R = some (.lst (M.map fun e => V.ref e.1)) ∧ RowsIn H d M ∧ M.map (·.2) = rs ∧ Up rs
theorem TableAt.to {C : Addr} {H H' : Hp} {p : Addr} {ms : List Str} {d : Nat} {rs : List (List Str)} (T : TableAt C H p ms d rs) (s : Same H H') : TableAt C H' p ms d rs := by
  obtain ⟨dx, A, R, M, h1, h2, h3, h4, h5⟩ := T
  exact ⟨dx, A, R, M, s _ _ h1, s _ _ h2, s _ _ h3, h4.to s, h5⟩
theorem TableAt.but {C : Addr} {H H' : Hp} {p q : Addr} {g : Nat} {ms : List Str} {d : Nat} {rs : List (List Str)} (T : TableAt C H p ms d rs) (hP : PurseAt H q g) (b : But q H H') : TableAt C H' p ms d rs := by
  have k : ∀ {a : Addr} {o : HO}, H a = some o → (∀ x y c t : Int, o ≠ .lst [.int x, .int y, .int c, .int t]) → H' a = some o := fun {a o} e ne => b _ _ (fun z => by
    obtain ⟨x, y, c, t, e', _⟩ := hP
    rw [z, e'] at e
    exact ne x y c t (Option.some.inj e).symm) e
  obtain ⟨dx, A, R, M, h1, h2, h3, h4, h5⟩ := T
  refine ⟨dx, A, R, M, k h1 (fun _ _ _ _ z => nomatch z), k h2 (fun _ _ _ _ z => ?_), k h3 (fun _ _ _ _ z => ?_), ⟨fun e he => k (h4.at_ e he) (fun _ _ _ _ z => nomatch z), h4.len, h4.few⟩, h5⟩
  · cases ms with
    | nil => cases z
    | cons m ms => cases z
  · cases M with
    | nil => cases z
    | cons m M => cases z
section
variable {P : Program} {w : World} {K : PySem.W.Frag} {mg : Str → Option Value} {base : Heap} {f : Addr} {fd : FuncData}
theorem scIsRow : FnScope ["marks", "width", "value", "mark"] ["marks", "width", "value"] (defScope sIsRow) := ⟨rfl, rfl, rfl, by decide +kernel, rfl, by decide +kernel, by decide +kernel⟩
abbrev RowArg : Hp → List V → Prop := fun H vs => ∃ (a t : Addr) (n : Int) (ms zs : List Str), vs = [.ref a, .int n, .ref t] ∧ H a = some (.lst (ms.map V.str)) ∧ H t = some (.tup (zs.map V.str)) ∧ (zs.length : Int) = n ∧ zs.length ≤ 1000 ∧ ∀ z ∈ zs, z ∈ ms
theorem ok_isrow (F : FnP K "is_row" sIsRow f fd) (T : Nm mg) (T6 : Nm6 mg) : FnOk P w K mg base CX0 1 f fd ["marks", "width", "value"] (spYes RowArg) := by
  refine F.ok scIsRow (fun vs H Q E h => ?_) (fun cdv A outer s H vs Q E hr h => ?_)
  · obtain ⟨⟨a, t, n, ms, zs, rfl, _⟩, _⟩ := h
    rfl
  · obtain ⟨⟨a, t, n, ms, zs, rfl, ha, ht, hn, few, hz⟩, k⟩ := h
    refine ⟨_, PSs.nox (pss_one (ps_ret (pe_and (pe_callB call_isi (by rfl) T6.isi (by decide +kernel) (pa_cons (pv 2) (pa_cons (pe_bltn (v := .ty "tuple") (u := .type "tuple") (by rfl) T6.tuple (by decide +kernel) rfl) pa_nil)))
      (pe_and (pe_cmpR op_eq (pe_callB call_len (by rfl) T.len PySem.boot_len (pa_cons (pv 2) pa_nil)) (pv 1) (nomark _))
      (pe_one (pe_callB (cr_all rfl) (by rfl) T6.all (by decide +kernel) (pa_cons (pe_lc (own := [("mark", 3)]) (g := gName 3) (tt := tYes) (te := tOp (rIn K false) (tVar 3) (tVar 0)) rfl scIsRow.nd (pi_tup (pv 2)) (blkOk_by (own := [("mark", 3)]) (N := ["marks", "width", "value", "mark"]) (sc := defScope sIsRow) (by decide +kernel))
        (fun _ _ _ _ _ => pg_name (i := 3) scIsRow.nd rfl (Or.inl rfl)) (fun _ _ _ _ _ => pts_nil) (fun _ _ _ _ _ => pe_cmpR op_in_seq (pv 3) (pv 0) (by rfl))) pa_nil))))))), ?_⟩
    refine ⟨_, rfl, _, _, .type "tuple", _, true, rfl, .ty _, .base (.tup ht), kit_ty (by decide +kernel), true, rfl, ?_⟩
    refine iteT ?_
    refine ⟨_, rfl, _, (zs.map V.str).length, rfl, Or.inr ⟨_, SqT.of ht, rfl⟩, _, rfl, rfl, true, ?_, ?_⟩
    · rw [List.length_map, hn]
      exact bl_self _
    refine iteT ?_
    refine ⟨_, rfl, t, rfl, ⟨_, SqT.of ht⟩, fun D hD => ?_⟩
    refine lc_tup (K := K) (a := t) (xs := zs.map V.str) (fun i Hx => Hx D = some (.lst ((List.replicate i true).map V.bl)) ∧ Same H Hx) ⟨upd_same, same_new hD⟩ (fun i Hx _ q => SqT.of (q.2 _ _ ht)) ?_ ?_
    · rintro i v Hx hv ⟨q1, q2⟩
      rw [List.getElem?_map] at hv
      obtain ⟨c, ec, rfl⟩ := Option.map_eq_some_iff.mp hv
      have hi : i < zs.length := (List.getElem?_eq_some_iff.mp ec).1
      refine ⟨rfl, ?_⟩
      refine ⟨_, rfl, _, rfl, a, ms.map V.str, rfl, .inl (SqL.of (q2 _ _ ha)), rfl, flat_strs' ms, ?_⟩
      have e1 : (V.bl (if false = true then !inV (V.str c) (ms.map V.str) else inV (V.str c) (ms.map V.str))) = V.bl true := by
        show V.bl (inV (V.str c) (ms.map V.str)) = _
        rw [inV_str, decide_eq_true (hz c (List.mem_of_getElem? ec))]
      rw [e1]
      refine ⟨_, q1, ?_, ?_, fun b o e => (upd_ne (ne_of_none e hD)).trans (q2 _ _ e)⟩
      · rw [List.length_map, List.length_replicate]
        exact len_ok (by omega)
      · rw [upd_same, List.replicate_succ', List.map_append]
        rfl
    · rintro Hx ⟨q1, q2⟩
      refine ⟨D, List.replicate (zs.map V.str).length true, rfl, SqL.of q1, ?_⟩
      rw [all_rep]
      exact k _ q2
theorem scCheckWidth : FnScope ["width"] ["width"] (defScope sCheckWidth) := ⟨rfl, rfl, rfl, by decide +kernel, rfl, by decide +kernel, by decide +kernel⟩
abbrev WidthArg : Hp → List V → Prop := fun _ vs => ∃ d : Nat, vs = [.int ((d + 1 : Nat) : Int)] ∧ d ≤ 3
theorem ok_checkwidth {fN : Addr} {dN : FuncData} {t : Tok} (F : FnP K "check_width" sCheckWidth f fd) (gM : mg "GREATEST_WIDTH" = some (.int 4 t))
    (GN : FnOk P w K mg base CX0 1 fN dN ["value"] (spYes fun _ vs => ∃ n : Int, vs = [.int n] ∧ 0 ≤ n)) (bN : Binds K dN ["value"] []) (kN : PySem.W.keepIn K (.ref fN) = true) (gN : mg "is_count" = some (.ref fN)) :
    FnOk P w K mg base CX0 2 f fd ["width"] (spNon WidthArg) := by
  refine F.ok scCheckWidth (fun vs H Q E h => ?_) (fun cdv A outer s H vs Q E hr h => ?_)
  · obtain ⟨⟨d, rfl, _⟩, _⟩ := h
    rfl
  · obtain ⟨⟨d, rfl, hd⟩, k⟩ := h
    refine ⟨_, PSs.nox (pss_one (ps_if (PW.pt (pw_or (pt_not (pt_val (pe_call GN hr rfl gN kN bN .nil pass0 (pa_cons (pv 0) pa_nil))))
      (pw_or1 (pt_not (pt_chain op_le op_le pe_int (pv 0) (pe_glob (v := .int 4) rfl gM ⟨_, rfl⟩)))))) (pss_one ps_never) pss_nil)), ?_⟩
    refine ⟨_, rfl, ⟨_, rfl, by omega⟩, fun H1 s1 => ⟨true, rfl, ?_⟩⟩
    refine iteF ?_
    refine ⟨_, rfl, _, _, rfl, rfl, true, by show V.bl (decide ((1 : Int) ≤ ((d + 1 : Nat) : Int))) = _; rw [decide_eq_true (by omega)], ?_⟩
    refine iteT ?_
    refine ⟨_, _, rfl, rfl, true, by show V.bl (decide (((d + 1 : Nat) : Int) ≤ 4)) = _; rw [decide_eq_true (by omega)], ?_⟩
    refine iteF ?_
    exact k H1 s1
theorem units4 {k : Nat} {A : Around} (hr : Room k A) : A.units + 4 < cLine := by
  have := hr.units
  omega
theorem units3 {k : Nat} {A : Around} (hr : Room k A) : A.units + 3 < cLine := by
  have := hr.units
  omega
theorem nodup_few {α : Type} : ∀ (l D : List α), l.Nodup → (∀ x ∈ l, x ∈ D) → l.length ≤ D.length
  | [], _, _, _ => Nat.zero_le _
  | x :: l, D, nd, sub => by
    obtain ⟨h1, h2⟩ := List.nodup_cons.mp nd
    obtain ⟨u, v, rfl⟩ := List.append_of_mem (sub x List.mem_cons_self)
    have := nodup_few l (u ++ v) h2 fun y hy => by
      have q := sub y (List.mem_cons_of_mem _ hy)
      rcases List.mem_append.mp q with q | q
      · exact List.mem_append_left _ q
      · rcases List.mem_cons.mp q with q | q
        · exact absurd (q ▸ hy) h1
        · exact List.mem_append_right _ q
    simp only [List.length_append, List.length_cons] at this ⊢
    omega
theorem sub_keyed {M0 : List (Addr × List Str)} : ∀ {L : List (Addr × List Key)}, (∀ e ∈ L, e ∈ keyed M0) → ∃ M, L = keyed M ∧ ∀ e ∈ M, e ∈ M0
  | [], _ => ⟨[], rfl, fun e he => nomatch he⟩
  | e :: L, h => by
    obtain ⟨M, e1, h1⟩ := sub_keyed (L := L) fun u hu => h u (List.mem_cons_of_mem _ hu)
    obtain ⟨u, hu, eu⟩ := List.mem_map.mp (h e List.mem_cons_self)
    refine ⟨u :: M, by rw [e1, ← eu] <;> rfl, fun v hv => ?_⟩
    rcases List.mem_cons.mp hv with rfl | hv
    · exact hu
    · exact h1 v hv
theorem scTInit : FnScope ["self", "marks", "width", "rows", "row"] ["self", "marks", "width", "rows"] (defScope sTInit) := ⟨rfl, rfl, rfl, by decide +kernel, rfl, by decide +kernel, by decide +kernel⟩
def spTInit (C : Addr) : Sp := fun vs H Q _ => ∃ (x dx a l : Addr) (d : Nat) (ms : List Str) (M0 : List (Addr × List Str)), vs = [.ref x, .ref a, .int ((d + 1 : Nat) : Int), .ref l] ∧ H x = some (.ins C dx []) ∧ H a = some (.lst (ms.map V.str)) ∧ MarksOk ms ∧ d ≤ 3 ∧ H l = some (.lst (M0.map fun e => V.ref e.1)) ∧ RowsIn H d M0 ∧ (∀ e ∈ M0, ∀ z ∈ e.2, z ∈ ms) ∧
  ∀ (H' : Hp) (rs : List (List Str)), (∀ r, r ∈ rs ↔ r ∈ M0.map (·.2)) → TableAt C H' x ms d rs → (∀ (A R : Addr) (n : Int) (e : Addr), H' x = some (.ins C e (tf A n R)) → H A = none ∧ H R = none) → But x H H' → Q .non H'
theorem ok_tinit {C fC fW fR : Addr} {dC dW dR : FuncData} (F : MethP K "__init__" sTInit f fd) (TT : TC K mg C) (T : Nm mg) (T6 : Nm6 mg) (hso : mg "sorted" = none) (hst : mg "set" = none)
    (GC : FnOk P w K mg base CX0 3 fC dC ["marks"] (spNon fun H vs => ∃ a ms, vs = [.ref a] ∧ H a = some (.lst (ms.map V.str)) ∧ MarksOk ms)) (bC : Binds K dC ["marks"] []) (kC : PySem.W.keepIn K (.ref fC) = true) (gC : mg "check_marks" = some (.ref fC))
    (GW : FnOk P w K mg base CX0 2 fW dW ["width"] (spNon WidthArg)) (bW : Binds K dW ["width"] []) (kW : PySem.W.keepIn K (.ref fW) = true) (gW : mg "check_width" = some (.ref fW))
    (GR : FnOk P w K mg base CX0 1 fR dR ["marks", "width", "value"] (spYes RowArg)) (bR : Binds K dR ["marks", "width", "value"] []) (kR' : PySem.W.keepIn K (.ref fR) = true) (gR : mg "is_row" = some (.ref fR)) :
    FnOk P w K mg base CX0 4 f fd ["self", "marks", "width", "rows"] (spTInit C) := by
  refine FunD.ok F scTInit (fun vs H Q E h => ?_) (fun cdv A outer s H vs Q E hr h => ?_)
  · obtain ⟨x, dx, a, l, d, ms, M0, rfl, _⟩ := h
    rfl
  · obtain ⟨x, dx, a, l, d, ms, M0, rfl, hx, ha, ok, hd, hl, hR, over, k⟩ := h
    have hu4 := units4 hr
    have hu3 := units3 hr
    refine ⟨_, PSs.nox (pss_cons (ps_expr (pe_call GC hr rfl gC kC bC .nil pass0 (pa_cons (pv 1) pa_nil)))
      (pss_cons (ps_expr (pe_call GW (hr.mono (by decide)) rfl gW kW bW .nil pass0 (pa_cons (pv 2) pa_nil)))
      (pss_cons (ps_if (PW.pt (pw_or (pt_not (pt_val (pe_callB call_isi (by rfl) T6.isi (by decide +kernel) (pa_cons (pv 3) (pa_cons (pe_bltn (v := .ty "list") (u := .type "list") (by rfl) T6.list (by decide +kernel) rfl) pa_nil)))))
          (pw_or1 (pt_not (pt_val (pe_callB (cr_all rfl) (by rfl) T6.all (by decide +kernel) (pa_cons (pe_lc (own := [("row", 4)]) (g := gName 4) (tt := tYes) (te := tCall (spYes RowArg) [] E0 (tCons (tVar 1) (tCons (tVar 2) (tCons (tVar 4) tNil)))) rfl scTInit.nd (pi_list (pv 3)) (blkOk_by (own := [("row", 4)]) (N := ["self", "marks", "width", "rows", "row"]) (sc := defScope sTInit) (by decide +kernel))
            (fun _ _ _ _ _ => pg_name (i := 4) scTInit.nd rfl (Or.inl rfl)) (fun _ _ _ _ _ => pts_nil) (fun _ _ _ _ _ => pe_call GR (hr.mono (by decide)) rfl gR kR' bR .nil pass0 (pa_cons (pv 1) (pa_cons (pv 2) (pa_cons (pv 4) pa_nil))))) pa_nil))))))) (pss_one ps_never) pss_nil)
      (pss_cons (ps_fld (pv 0) (pe_callTy call_list_of (by rfl) T6.list (by decide +kernel) (pa_cons (pv 1) pa_nil)) rfl)
      (pss_cons (ps_fld (pv 0) (pv 2) rfl)
      (pss_one (ps_fld (pv 0) (pe_callB (cr_sortSet rfl hu4) (by rfl) hso (by decide +kernel) (pa_cons (pe_callTy (cr_setT rfl hu3) (by rfl) hst (by decide +kernel) (pa_cons (pv 3) pa_nil)) pa_nil)) rfl))))))), ?_⟩
    refine ⟨_, rfl, ⟨a, ms, rfl, ha, ok⟩, fun H1 s1 => ?_⟩
    refine ⟨_, rfl, ⟨d, rfl, hd⟩, fun H2 s2 => ?_⟩
    have s12 : Same H H2 := fun b o e => s2 _ _ (s1 _ _ e)
    refine ⟨_, rfl, _, _, .type "list", _, true, rfl, .ty _, .base (.lst (s12 _ _ hl)), kit_ty (by decide +kernel), _, rfl, ?_⟩
    refine iteF ?_
    refine ⟨_, rfl, l, rfl, ⟨_, SqL.of (s12 _ _ hl)⟩, fun D hD => ?_⟩
    have lM : M0.length ≤ 1000 := by
      have := hR.few
      omega
    refine lc_list (K := K) (a := l) (xs := M0.map fun e => V.ref e.1) (fun i Hx => Hx D = some (.lst ((List.replicate i true).map V.bl)) ∧ Same H2 Hx) ⟨upd_same, same_new hD⟩ (fun i Hx _ q => SqL.of (q.2 _ _ (s12 _ _ hl))) ?_ ?_
    · rintro i v Hx hv ⟨q1, q2⟩
      rw [List.getElem?_map] at hv
      obtain ⟨e, he, rfl⟩ := Option.map_eq_some_iff.mp hv
      have em := List.mem_of_getElem? he
      have hi : i < M0.length := (List.getElem?_eq_some_iff.mp he).1
      refine ⟨rfl, ?_⟩
      refine ⟨_, rfl, _, rfl, _, rfl, ⟨a, e.1, _, ms, e.2, rfl, q2 _ _ (s12 _ _ ha), q2 _ _ (s12 _ _ (hR.at_ e em)), by rw [hR.len e em], by rw [hR.len e em]; omega, over e em⟩, fun H3 s3 => ⟨_, s3 _ _ q1, ?_, ?_, fun b o z => (upd_ne (ne_of_none z hD)).trans (s3 _ _ (q2 _ _ z))⟩⟩
      · rw [List.length_map, List.length_replicate]
        exact len_ok (by omega)
      · rw [upd_same, List.replicate_succ', List.map_append]
        rfl
    · rintro Hx ⟨q1, q2⟩
      refine ⟨D, List.replicate (M0.map fun e => V.ref e.1).length true, rfl, SqL.of q1, ?_⟩
      rw [all_rep]
      refine ⟨true, rfl, ?_⟩
      refine iteF ?_
      have sx : Same H Hx := fun b o e => q2 _ _ (s12 _ _ e)
      refine ⟨_, rfl, a, _, rfl, .inl (SqL.of (sx _ _ ha)), fun A1 nA => ?_⟩
      have sA := same_new (o := .lst (ms.map V.str)) nA
      have xA : x ≠ A1 := fun z => by
        rw [← z, sx _ _ hx] at nA
        cases nA
      refine ⟨_, rfl, x, C, dx, [], rfl, sA _ _ (sx _ _ hx), TT.cl, TT.nM, (by show 0 < 1000; decide), ?_⟩
      refine ⟨_, rfl, _, rfl, x, C, dx, _, rfl, upd_same, TT.cl, TT.nW, (by show 1 < 1000; decide), ?_⟩
      obtain ⟨H3, e3⟩ : ∃ G, G = upd (upd (upd Hx A1 (.lst (ms.map V.str))) x (.ins C dx (putF "_marks" (.ref A1) []))) x (.ins C dx (putF "_width" (.int ((d + 1 : Nat) : Int)) (putF "_marks" (.ref A1) []))) := ⟨_, rfl⟩
      rw [← e3]
      have hx3 : H3 x = some (.ins C dx (putF "_width" (.int ((d + 1 : Nat) : Int)) (putF "_marks" (.ref A1) []))) := by
        rw [e3]
        exact upd_same
      have b3 : But x H H3 := fun b o ne e => by
        rw [e3, upd_ne ne, upd_ne ne]
        exact sA _ _ (sx _ _ e)
      have hA3 : H3 A1 = some (.lst (ms.map V.str)) := by
        rw [e3, upd_ne xA.symm, upd_ne xA.symm]
        exact upd_same
      have lx : l ≠ x := fun z => by
        rw [z, hx] at hl
        cases hl
      have hl3 := b3 _ _ lx hl
      have hR3 : RowsIn H3 d M0 := ⟨fun e he => b3 _ _ (fun z => by
        have q := hR.at_ e he
        rw [z, hx] at q
        cases q) (hR.at_ e he), hR.len, hR.few⟩
      refine ⟨_, rfl, l, keyed M0, rfl, ?_, hR3.stand, by rw [List.length_map]; exact hR3.few, fun S L nS of all nd => ?_⟩
      · have e : (keyed M0).map (fun e => V.ref e.1) = M0.map fun e => V.ref e.1 := by
          unfold keyed
          rw [List.map_map]
          rfl
        rw [e]
        exact SqL.of hl3
      obtain ⟨M, rfl, sub⟩ := sub_keyed of
      have sS := same_new (o := SetTO' P w S (keyed M)) nS
      have fewM : M.length < 300 := by
        have n1 := nodup_few ((keyed M).map (·.2)) ((keyed M0).map (·.2)) nd fun y hy => by
          obtain ⟨e, he, rfl⟩ := List.mem_map.mp hy
          exact List.mem_map.mpr ⟨e, of e he, rfl⟩
        rw [List.length_map, List.length_map, List.length_map, List.length_map] at n1
        have := hR.few
        omega
      have hRM : RowsIn (upd H3 S (SetTO' P w S (keyed M))) d M := ⟨fun e he => sS _ _ (hR3.at_ e (sub e he)), fun e he => hR.len e (sub e he), fewM⟩
      refine ⟨S, M, d, rfl, upd_same, hRM, fun M' R pm up nR => ?_⟩
      have sR := same_new (o := .lst (M'.map fun e => V.ref e.1)) nR
      have xR : x ≠ R := fun z => by
        have t := sS _ _ hx3
        rw [z] at t
        exact nomatch (t.symm.trans nR)
      refine ⟨_, rfl, x, C, dx, _, rfl, sR _ _ (sS _ _ hx3), TT.cl, TT.nR, tf_len2 _ _, ?_⟩
      rw [tf_make]
      have nx : ∀ {b : Addr} {o : HO}, (∀ fs, o ≠ .ins C dx fs) → (upd (upd H3 S (SetTO' P w S (keyed M))) R (.lst (M'.map fun e => V.ref e.1))) b = some o → (upd (upd (upd H3 S (SetTO' P w S (keyed M))) R (.lst (M'.map fun e => V.ref e.1))) x (.ins C dx (tf A1 ((d + 1 : Nat) : Int) R))) b = some o := fun {b o} ne e => (upd_ne (fun z => by
        have t := sR _ _ (sS _ _ hx3)
        rw [z] at e
        exact ne _ (Option.some.inj (e.symm.trans t)))).trans e
      refine k _ (M'.map (·.2)) (fun r => ?_) ⟨dx, A1, R, M', upd_same, nx (fun _ z => nomatch z) (sR _ _ (sS _ _ hA3)), nx (fun _ z => nomatch z) upd_same, ⟨fun e he => nx (fun _ z => nomatch z) (sR _ _ (hRM.at_ e (pm.mem_iff.mp he))), fun e he => hRM.len e (pm.mem_iff.mp he), by rw [pm.length_eq]; exact fewM⟩, rfl, up⟩ (fun A' R' n' e' he => by
        rw [upd_same] at he
        have h2 := congrArg (fun o => match o with | some (HO.ins _ _ fs) => fs | _ => []) he
        simp only [tf, List.cons.injEq, Prod.mk.injEq, V.ref.injEq, true_and, and_true] at h2
        obtain ⟨rfl, _, rfl⟩ := h2
        refine ⟨?_, ?_⟩
        · cases z : H A1 with
          | none => rfl
          | some o => exact nomatch ((sx _ _ z).symm.trans nA)
        · cases z : H R with
          | none => rfl
          | some o => exact nomatch ((sS _ _ (b3 _ _ xR.symm z)).symm.trans nR)) fun b o ne e => (upd_ne ne).trans (sR _ _ (sS _ _ (b3 _ _ ne e)))
      rw [(pm.map (·.2)).mem_iff]
      refine ⟨fun h => ?_, fun h => ?_⟩
      · obtain ⟨e, he, rfl⟩ := List.mem_map.mp h
        exact List.mem_map.mpr ⟨e, sub e he, rfl⟩
      · obtain ⟨e, he, rfl⟩ := List.mem_map.mp h
        have := all (e.1, kR e.2) (List.mem_map.mpr ⟨e, he, rfl⟩)
        obtain ⟨u, hu, eu⟩ := List.mem_map.mp this
        obtain ⟨v, hv, rfl⟩ := List.mem_map.mp hu
        exact List.mem_map.mpr ⟨v, hv, kR_inj eu⟩
end
end Yt

set_option Elab.async false
set_option linter.all false
set_option maxRecDepth 100000
set_option maxHeartbeats 2000000
namespace Yt
open PySem PySem.Spec PyProof.Rows L2
/-! ### a == b by the own __eq__ of a's class: whatever it tells -/
theorem op_eqOwn {X : Cx} {CX : CXT} {n : Nat} {C f : Addr} {fd : FuncData} {ps : List Str} {sp : Sp} {E : XK} (F : FnOk X.prog X.w X.K X.mg X.base CX n f fd ps sp) (hs : PySem.W.findIn X.K (.ref C) "__eq__" = some (some (.ref f))) (hf : PySem.W.isFn X.K (.ref f) = true) (hb : Binds X.K fd ps []) (hx : Passes CX X E) (hr : Room n X.A) :
    OpR X (compareOp .Eq) fun x y H Q => ∃ a b dx dy fs gs, x = .ref a ∧ y = .ref b ∧ H a = some (.ins C dx fs) ∧ H b = some (.ins C dy gs) ∧ sp [.ref a, .ref b] H Q E := by
  intro pins s σ H x y u v Q I rx ry d
  obtain ⟨a, b, dx, dy, fs, gs, rfl, rfl, ha, hb', hsp⟩ := d
  cases rx
  cases ry
  show wpAny (model X.prog X.w) X.A (richCompare .Eq (.ref a) (.ref b)) (EP X pins σ Q) X.xe s
  obtain ⟨_, J, _⟩ := ins_get I.hok ha
  obtain ⟨_, J', _⟩ := ins_get I.hok hb'
  obtain ⟨_, J, _⟩ := J.look
  obtain ⟨_, J', _⟩ := J'.look
  obtain ⟨m, hF⟩ := I.fr
  refine PySem.W.cmp_K (op := .Eq) (tb := .ref C) hr.units0 hF I.ok.mod.kin J J'.type (by simp [PySem.W.notFirst]) hs hf ?_
  have hl := F.len _ _ _ _ hsp
  refine wpAny_call (codeAny_mono (F.run X.A X.stack s H ⟨[.ref a, .ref b], []⟩ [.ref a, .ref b] [.ref a, .ref b] _ E hr I.env0 (by
    have q := hb s [.ref a, .ref b] I.kIn (by simpa using hl)
    simpa using q) (.cons rfl (.cons rfl .nil)) hsp) fun r t got => ?_)
  cases r with
  | error e => exact hx pins σ H s e t I got
  | ok fl =>
    cases fl with
    | ret z =>
      obtain ⟨v, H', I', rz, q⟩ := I.after got
      cases z <;> first
        | exact ⟨v, H', I', rz, q⟩
        | (exfalso; cases v <;> first | (obtain ⟨_, h⟩ := rz; exact nomatch h) | exact nomatch rz | (cases rz; done))
    | next => exact False.elim got
    | brk => exact False.elim got
    | cont => exact False.elim got
/-! ### data: marks, rows -/
def strsD (zs : List Str) : PyData := .list (zs.map PyData.str)
def rowsD (rs : List (List Str)) : PyData := .list (rs.map rowD)
theorem dp_strs {K : PySem.W.Frag} {H : Hp} : ∀ zs : List Str, DpAll K H (zs.map V.str) (zs.map PyData.str)
  | [] => .nil
  | z :: r => .cons (.str z) (dp_strs r)
theorem dp_rows {K : PySem.W.Frag} {H : Hp} : ∀ {M : List (Addr × List Str)}, (∀ e ∈ M, H e.1 = some (.tup (e.2.map V.str))) → DpAll K H (M.map fun e => V.ref e.1) ((M.map (·.2)).map rowD)
  | [], _ => .nil
  | e :: M, h => .cons (.tup (SqT.of (h e List.mem_cons_self)) (dp_strs e.2)) (dp_rows fun u hu => h u (List.mem_cons_of_mem _ hu))
theorem word_str {x : Str} (h : WordOk x) : PyData.strOk x = true := by
  unfold PyData.strOk
  rw [← Array.all_toList, List.all_eq_true]
  intro c hc
  have := h.2 c hc
  exact decide_eq_true (by omega)
theorem strs_lay : ∀ zs : List Str, (∀ z ∈ zs, WordOk z) → PyData.canLayAll0 (zs.map PyData.str) = true
  | [], _ => rfl
  | z :: r, h => by
    have := strs_lay r fun x hx => h x (List.mem_cons_of_mem _ hx)
    show (PyData.strOk z && PyData.canLayAll0 (r.map PyData.str)) = true
    rw [this, word_str (h z List.mem_cons_self)]
    rfl
theorem rows_lay : ∀ rs : List (List Str), (∀ r ∈ rs, ∀ z ∈ r, WordOk z) → PyData.canLayAll0 (rs.map rowD) = true
  | [], _ => rfl
  | r :: rs, h => by
    have h1 := rows_lay rs fun x hx => h x (List.mem_cons_of_mem _ hx)
    have h2 := strs_lay r (h r List.mem_cons_self)
    show (PyData.canLayAll0 (r.map PyData.str) && PyData.canLayAll0 (rs.map rowD)) = true
    rw [h1, h2]
    rfl
theorem rows_depth : ∀ rs : List (List Str), PyData.depthAll (rs.map rowD) ≤ 1
  | [] => by simp [PyData.depthAll]
  | r :: rs => by
    have h := rows_depth rs
    have h2 := row_depth r
    rw [List.map_cons, PyData.depthAll]
    unfold rowD
    rw [PyData.depth, h2]
    unfold rowD at h
    omega
theorem strs_shaped {zs : List Str} (h : ∀ z ∈ zs, WordOk z) : SeqAt.shaped (strsD zs) = true := by
  unfold SeqAt.shaped
  rw [show (strsD zs).canLay0 = true from strs_lay zs h, decide_eq_true (by unfold strsD; rw [PyData.depth, row_depth]; omega)]
  rfl
theorem rows_shaped {rs : List (List Str)} (h : ∀ r ∈ rs, ∀ z ∈ r, WordOk z) : SeqAt.shaped (rowsD rs) = true := by
  unfold SeqAt.shaped
  have d := rows_depth rs
  rw [show (rowsD rs).canLay0 = true from rows_lay rs h, decide_eq_true (by unfold rowsD; rw [PyData.depth]; omega)]
  rfl
theorem eqv_strs : ∀ a b : List Str, PyData.eqvAll (a.map PyData.str) (b.map PyData.str) = decide (a = b)
  | [], [] => rfl
  | [], _ :: _ => rfl
  | _ :: _, [] => rfl
  | x :: a, y :: b => by
    rw [List.map_cons, List.map_cons, PyData.eqvAll, eqv_strs a b]
    show (x == y && decide (a = b)) = _
    by_cases e : x = y <;> by_cases g : a = b <;> simp [e, g]
theorem eqv_rows : ∀ a b : List (List Str), PyData.eqvAll (a.map rowD) (b.map rowD) = decide (a = b)
  | [], [] => rfl
  | [], _ :: _ => rfl
  | _ :: _, [] => rfl
  | x :: a, y :: b => by
    rw [List.map_cons, List.map_cons, PyData.eqvAll, eqv_rows a b]
    show (PyData.eqvAll (x.map PyData.str) (y.map PyData.str) && decide (a = b)) = _
    rw [eqv_strs]
    by_cases e : x = y <;> by_cases g : a = b <;> simp [e, g]
/-- what a table holds, of words -/
def Words (ms : List Str) (rs : List (List Str)) : Prop := (∀ z ∈ ms, WordOk z) ∧ ∀ r ∈ rs, ∀ z ∈ r, WordOk z
section
variable {P : Program} {w : World} {K : PySem.W.Frag} {mg : Str → Option Value} {base : Heap} {f : Addr} {fd : FuncData}
theorem scTMarks : FnScope ["self"] ["self"] (defScope sTMarks) := ⟨rfl, rfl, rfl, by decide +kernel, rfl, by decide +kernel, by decide +kernel⟩
theorem scTWidth : FnScope ["self"] ["self"] (defScope sTWidth) := ⟨rfl, rfl, rfl, by decide +kernel, rfl, by decide +kernel, by decide +kernel⟩
theorem scTRows : FnScope ["self"] ["self"] (defScope sTRows) := ⟨rfl, rfl, rfl, by decide +kernel, rfl, by decide +kernel, by decide +kernel⟩
theorem scTEq : FnScope ["self", "other"] ["self", "other"] (defScope sTEq) := ⟨rfl, rfl, rfl, by decide +kernel, rfl, by decide +kernel, by decide +kernel⟩
def spTMarks (C : Addr) : Sp := fun vs H Q _ => ∃ (p : Addr) (ms : List Str) (d : Nat) (rs : List (List Str)), vs = [.ref p] ∧ TableAt C H p ms d rs ∧ ∀ (L : Addr) (H' : Hp), H L = none → H' L = some (.lst (ms.map V.str)) → Same H H' → Q (.ref L) H'
def spTWidth (C : Addr) : Sp := fun vs H Q _ => ∃ (p : Addr) (ms : List Str) (d : Nat) (rs : List (List Str)), vs = [.ref p] ∧ TableAt C H p ms d rs ∧ Q (.int ((d + 1 : Nat) : Int)) H
def spTRows (C : Addr) : Sp := fun vs H Q _ => ∃ (p : Addr) (ms : List Str) (d : Nat) (rs : List (List Str)), vs = [.ref p] ∧ TableAt C H p ms d rs ∧ ∀ (L : Addr) (M : List (Addr × List Str)) (H' : Hp), H L = none → H' L = some (.lst (M.map fun e => V.ref e.1)) → RowsIn H d M → M.map (·.2) = rs → Same H H' → Q (.ref L) H'
def spTEq (C : Addr) : Sp := fun vs H Q _ => ∃ (p q : Addr) (ms ns : List Str) (d e : Nat) (rs us : List (List Str)), vs = [.ref p, .ref q] ∧ TableAt C H p ms d rs ∧ TableAt C H q ns e us ∧ Words ms rs ∧ Words ns us ∧ Q (.bl (decide (ms = ns ∧ d = e ∧ rs = us))) H
theorem ok_tmarks {C : Addr} (F : MethP K "marks" sTMarks f fd) (TT : TC K mg C) (T6 : Nm6 mg) : FnOk P w K mg base CX0 1 f fd ["self"] (spTMarks C) := by
  refine FunD.ok F scTMarks (fun vs H Q E h => ?_) (fun cdv A outer s H vs Q E hr h => ?_)
  · obtain ⟨p, ms, d, rs, rfl, _⟩ := h
    rfl
  · obtain ⟨p, ms, d, rs, rfl, ⟨dx, A1, R, M, h1, h2, h3, h4, h5⟩, k⟩ := h
    refine ⟨_, PSs.nox (pss_one (ps_ret (pe_callTy call_list_of (by rfl) T6.list (by decide +kernel) (pa_cons (pe_fld (pv 0) rfl) pa_nil)))), ?_⟩
    exact ⟨_, rfl, p, C, dx, _, _, rfl, h1, TT.cl, TT.nM, tf_marks _ _ _, A1, _, rfl, .inl (SqL.of h2), fun L nL => k L _ nL upd_same (same_new nL)⟩
theorem ok_twidth {C : Addr} (F : MethP K "width" sTWidth f fd) (TT : TC K mg C) : FnOk P w K mg base CX0 1 f fd ["self"] (spTWidth C) := by
  refine FunD.ok F scTWidth (fun vs H Q E h => ?_) (fun cdv A outer s H vs Q E hr h => ?_)
  · obtain ⟨p, ms, d, rs, rfl, _⟩ := h
    rfl
  · obtain ⟨p, ms, d, rs, rfl, ⟨dx, A1, R, M, h1, h2, h3, h4, h5⟩, k⟩ := h
    refine ⟨_, PSs.nox (pss_one (ps_ret (pe_fld (pv 0) rfl))), ?_⟩
    exact ⟨_, rfl, p, C, dx, _, _, rfl, h1, TT.cl, TT.nW, tf_width _ _ _, k⟩
theorem ok_trows {C : Addr} (F : MethP K "rows" sTRows f fd) (TT : TC K mg C) (T6 : Nm6 mg) : FnOk P w K mg base CX0 1 f fd ["self"] (spTRows C) := by
  refine FunD.ok F scTRows (fun vs H Q E h => ?_) (fun cdv A outer s H vs Q E hr h => ?_)
  · obtain ⟨p, ms, d, rs, rfl, _⟩ := h
    rfl
  · obtain ⟨p, ms, d, rs, rfl, ⟨dx, A1, R, M, h1, h2, h3, h4, h5, h6⟩, k⟩ := h
    refine ⟨_, PSs.nox (pss_one (ps_ret (pe_callTy call_list_of (by rfl) T6.list (by decide +kernel) (pa_cons (pe_fld (pv 0) rfl) pa_nil)))), ?_⟩
    exact ⟨_, rfl, p, C, dx, _, _, rfl, h1, TT.cl, TT.nR, tf_rows _ _ _, R, _, rfl, .inl (SqL.of h3), fun L nL => k L M _ nL upd_same h4 h5 (same_new nL)⟩
theorem ok_teq {C : Addr} (F : MethP K "__eq__" sTEq f fd) (TT : TC K mg C) (T6 : Nm6 mg) : FnOk P w K mg base CX0 1 f fd ["self", "other"] (spTEq C) := by
  refine FunD.ok F scTEq (fun vs H Q E h => ?_) (fun cdv A outer s H vs Q E hr h => ?_)
  · obtain ⟨p, q, ms, ns, d, e, rs, us, rfl, _⟩ := h
    rfl
  · obtain ⟨p, q, ms, ns, d, e, rs, us, rfl, ⟨dx, A1, R, M, h1, h2, h3, h4, h5, h6⟩, ⟨dy, B1, S, N, g1, g2, g3, g4, g5, g6⟩, w1, w2, k⟩ := h
    refine ⟨_, PSs.nox (pss_one (ps_ret (pe_and (pe_callB call_isi (by rfl) T6.isi (by decide +kernel) (pa_cons (pv 1) (pa_cons (pe_glob (v := .ref C) rfl TT.mgC rfl) pa_nil)))
      (pe_and (pe_cmpR (op_eqD hr.units) (pe_fld (pv 0) rfl) (pe_fld (pv 1) rfl) (nomark _))
      (pe_and (pe_cmpR op_eq (pe_fld (pv 0) rfl) (pe_fld (pv 1) rfl) (nomark _))
      (pe_one (pe_cmpR (op_eqD hr.units) (pe_fld (pv 0) rfl) (pe_fld (pv 1) rfl) (nomark _)))))))), ?_⟩
    refine ⟨_, rfl, _, _, .ref C, _, true, rfl, .own C, TT.is g1, TT.kit, true, rfl, ?_⟩
    refine iteT ?_
    refine ⟨_, rfl, p, C, dx, _, _, rfl, h1, TT.cl, TT.nM, tf_marks _ _ _, _, rfl, q, C, dy, _, _, rfl, g1, TT.cl, TT.nM, tf_marks _ _ _, strsD ms, strsD ns, .lst (SqL.of h2) (dp_strs ms), .lst (SqL.of g2) (dp_strs ns), strs_shaped w1.1, strs_shaped w2.1, decide (ms = ns), by show V.bl (PyData.eqvAll _ _) = _; rw [eqv_strs], ?_⟩
    by_cases em : ms = ns
    · rw [decide_eq_true em]
      refine iteT ?_
      refine ⟨_, rfl, p, C, dx, _, _, rfl, h1, TT.cl, TT.nW, tf_width _ _ _, _, rfl, q, C, dy, _, _, rfl, g1, TT.cl, TT.nW, tf_width _ _ _, rfl, decide (d = e), ?_, ?_⟩
      · congr 1
        by_cases ed : d = e
        · rw [ed]
          simp
        · rw [decide_eq_false ed, decide_eq_false (fun z => ed (by have := V.int.inj z; omega))]
      by_cases ed : d = e
      · rw [decide_eq_true ed]
        refine iteT ?_
        refine ⟨_, rfl, p, C, dx, _, _, rfl, h1, TT.cl, TT.nR, tf_rows _ _ _, _, rfl, q, C, dy, _, _, rfl, g1, TT.cl, TT.nR, tf_rows _ _ _, rowsD rs, rowsD us, .lst (SqL.of h3) (by rw [← h5]; exact dp_rows h4.at_), .lst (SqL.of g3) (by rw [← g5]; exact dp_rows g4.at_), rows_shaped w1.2, rows_shaped w2.2, ?_⟩
        show Q (V.bl (PyData.eqvAll _ _)) H
        rw [eqv_rows]
        have e1 : decide (ms = ns ∧ d = e ∧ rs = us) = decide (rs = us) := by simp [em, ed]
        rw [e1] at k
        exact k
      · rw [decide_eq_false ed]
        refine iteF ?_
        rw [decide_eq_false (fun z => ed z.2.1)] at k
        exact k
    · rw [decide_eq_false em]
      refine iteF ?_
      rw [decide_eq_false (fun z => em z.1)] at k
      exact k
end
end Yt

set_option Elab.async false
set_option linter.all false
set_option maxRecDepth 100000
set_option maxHeartbeats 2000000
namespace Yt
open PySem PySem.Spec PyProof.Rows L2
/-! ### list comprehensions with any number of `for` -/
abbrev notedR (prog : Program) (w : World) (A : Around) (R : Result → Shared → Prop) (env : Env) : Value → Shared → Prop := notedBy (model prog w) A env fun e s' => R (.error e) s'
section
variable {prog : Program} {w : World} {A : Around} {R : Result → Shared → Prop} {s : Shared} {elt t i t' i' : Expr} {ifs ifs' : List Expr} {gs : List Comprehension} {sc : Scope} {p : Pos} {it acc : Value} {env : Env} {k : Nat}
theorem turn_out (h0 : gs[k]? = some ⟨t, i, ifs, 0⟩) (h1 : gs[k + 1]? = some ⟨t', i', ifs', 0⟩) : compTurn (.ListComp elt gs sc p) k it acc env = (do
    standAt i.pos
    match ← pyNext it with
    | none => pure (.done .next)
    | some v =>
      letOwnedTupleGo t it v
      assign t env v
      let ok ← forIn ifs true fun c r => if r = true then do let ok ← isTrue c env (eval c env); pure (ForInStep.yield ok) else pure (ForInStep.yield r)
      if ok then
        let x ← eval i' env
        standAt i'.pos
        let x ← foldedSetIterable i' env x
        let _ ← runOwn (.compStart (.ListComp elt gs sc p) (k + 1) (← holding [x] (pyIter x)) acc env) env
      again (.compLoop (.ListComp elt gs sc p) k it acc env)) := by
  unfold compTurn
  dsimp only
  rw [h0]
  dsimp only
  rw [h1]
  rfl
theorem turn_in (h0 : gs[k]? = some ⟨t, i, ifs, 0⟩) (h1 : gs[k + 1]? = none) : compTurn (.ListComp elt gs sc p) k it acc env = (do
    standAt i.pos
    match ← pyNext it with
    | none => pure (.done .next)
    | some v =>
      letOwnedTupleGo t it v
      assign t env v
      let ok ← forIn ifs true fun c r => if r = true then do let ok ← isTrue c env (eval c env); pure (ForInStep.yield ok) else pure (ForInStep.yield r)
      if ok then
        (do let _ ← call (.builtin "list.append") [acc, ← eval elt env])
      again (.compLoop (.ListComp elt gs sc p) k it acc env)) := by
  unfold compTurn
  dsimp only
  rw [h0]
  dsimp only
  rw [h1]
  rfl
abbrev tests (ifs : List Expr) (env : Env) : Sem Bool := forIn ifs true fun c r => if r = true then do let ok ← isTrue c env (eval c env); pure (ForInStep.yield ok) else pure (ForInStep.yield r)
/-- what a turn does when the tests let it -/
abbrev goesIn (elt : Expr) (acc : Value) (env : Env) (more : Sem PySem.Fin) : Sem PySem.Fin := do
  (do let _ ← call (.builtin "list.append") [acc, ← eval elt env])
  more
abbrev goesOut (e i' : Expr) (k : Nat) (acc : Value) (env : Env) (more : Sem PySem.Fin) : Sem PySem.Fin := do
  let x ← eval i' env
  standAt i'.pos
  let x ← foldedSetIterable i' env x
  let _ ← runOwn (.compStart e (k + 1) (← holding [x] (pyIter x)) acc env) env
  more
abbrev turnOf (e i t : Expr) (ifs : List Expr) (M : Sem PySem.Fin → Sem PySem.Fin) (k : Nat) (it acc : Value) (env : Env) : Sem PySem.Fin := do
  standAt i.pos
  match ← pyNext it with
  | none => pure (.done .next)
  | some v =>
    letOwnedTupleGo t it v
    assign t env v
    let ok ← tests ifs env
    if ok = true then M (again (.compLoop e k it acc env)) else again (.compLoop e k it acc env)
theorem turn_in' (h0 : gs[k]? = some ⟨t, i, ifs, 0⟩) (h1 : gs[k + 1]? = none) : compTurn (.ListComp elt gs sc p) k it acc env = turnOf (.ListComp elt gs sc p) i t ifs (goesIn elt acc env) k it acc env := turn_in h0 h1
theorem turn_out' (h0 : gs[k]? = some ⟨t, i, ifs, 0⟩) (h1 : gs[k + 1]? = some ⟨t', i', ifs', 0⟩) : compTurn (.ListComp elt gs sc p) k it acc env = turnOf (.ListComp elt gs sc p) i t ifs (goesOut (.ListComp elt gs sc p) i' k acc env) k it acc env := by
  rw [turn_out h0 h1]
theorem loop_gen {M : Sem PySem.Fin → Sem PySem.Fin} (hM : ∀ it, compTurn (.ListComp elt gs sc p) k it acc env = turnOf (.ListComp elt gs sc p) i t ifs M k it acc env) (I : Nat → Shared → Prop)
    (turn : ∀ n s, I n s → wpAny (model prog w) A (pyNext it) (fun r s₁ => match r with
      | none => R (.ok .next) s₁
      | some v => wpAny (model prog w) A (letOwnedTupleGo t it v) (fun _ s₂ => wpAny (model prog w) A (assign t env v) (fun _ s₃ => wpAny (model prog w) A (tests ifs env) (fun ok s₄ =>
          if ok = true then ∀ (more : Sem PySem.Fin) (Qf : PySem.Fin → Shared → Prop), (∀ s₅, (∃ m, m < n ∧ I m s₅) → wpAny (model prog w) A more Qf (notedR prog w A R env) s₅) → wpAny (model prog w) A (M more) Qf (notedR prog w A R env) s₄ else ∃ m, m < n ∧ I m s₄) (notedR prog w A R env) s₃) (notedR prog w A R env) s₂) (notedR prog w A R env) s₁) (notedR prog w A R env) s)
    (n : Nat) (h : I n s) : codeAny (model prog w) A (.compLoop (.ListComp elt gs sc p) k it acc env) R s := by
  refine codeAny_loop rfl I (fun n s hI => ?_) n h
  show wpAny _ A ((compTurn (.ListComp elt gs sc p) k it acc env).onRaise (fun x => do noteFrame x env; theTreesLotGoes x)) _ _ s
  refine wpAny_noted ?_
  rw [hM]
  refine wpAny_bind (wpAny_standAt (wpAny_bind (wpAny_mono (turn n s hI) (fun r s₁ h₁ => ?_) fun _ _ q => q)))
  cases r with
  | none => exact wpAny_pure h₁
  | some v =>
    refine wpAny_bind (wpAny_mono h₁ (fun _ s₂ h₂ => wpAny_bind (wpAny_mono h₂ (fun _ s₃ h₃ => wpAny_bind (wpAny_mono h₃ (fun ok s₄ h₄ => ?_) fun _ _ q => q)) fun _ _ q => q)) fun _ _ q => q)
    cases ok with
    | false =>
      first
        | exact wpAny_pure ⟨rfl, h₄⟩
        | exact wpAny_bind (wpAny_pure (wpAny_pure ⟨rfl, h₄⟩))
    | true => exact h₄ _ _ fun s₅ h₅ => wpAny_pure ⟨rfl, h₅⟩
/-- the next clause's start -/
theorem start_gen (h0 : codeAny (model prog w) A (.compLoop (.ListComp elt gs sc p) k it acc env) R s) (hk : gs[k]? = some ⟨t, i, ifs, 0⟩)
    (h : wpAny (model prog w) A (pyIter it) (fun it' s' => codeAny (model prog w) A (.compLoop (.ListComp elt gs sc p) k it' acc env) R s') (notedR prog w A R env) s) :
    codeAny (model prog w) A (.compStart (.ListComp elt gs sc p) k it acc env) R s := by
  refine codeAny_of_tree ?_
  show wpAny _ _ ((compStart (.ListComp elt gs sc p) k it acc env).onRaise (fun x => do noteFrame x env; standAt theWindowsPlace)) _ _ s
  refine wpAny_notedAt ?_
  unfold compStart
  have ec : (clausesOf (.ListComp elt gs sc p))[k]? = some ⟨t, i, ifs, 0⟩ := hk
  rw [ec]
  show wpAny _ _ (ask >>= _) _ _ s
  refine wpAny_bind (wpAny_askSetting (wpAny_ite ?_))
  split
  · first
      | exact wpAny_bind (wpAny_pure (wpAny_pure (And.intro rfl h0)))
      | exact wpAny_pure (And.intro rfl h0)
  · refine wpAny_bind (wpAny_rule ?_)
    show wpAny _ _ (standAt i.pos >>= _) _ _ s
    exact wpAny_bind (wpAny_standAt (wpAny_bind (wpAny_mono h (fun _ _ q => wpAny_pure (And.intro rfl q)) fun _ _ q => q)))
end
/-- a clause as it is read; vs: the names that are set anew from here on -/
structure Cl where
  wi : TI
  g : TG
  tt : TT
  vs : List Nat
def topVs : List Cl → List Nat
  | [] => []
  | c :: _ => c.vs
/-- behind the tests of a clause: the clauses that are left, then the item is put to the list at D; N is reached -/
def bodyN (te : TE) (D : Addr) : List Cl → L2.St → Hp → (Hp → Prop) → Prop
  | [], σ, H, N => te σ H fun y H1 => ∃ acc, H1 D = some (.lst acc) ∧ acc.length < sizeLine ∧ N (upd H1 D (.lst (acc ++ [y])))
  | c :: cs, σ, H, N => c.wi σ H fun J H1 => ∃ W : Nat → Nat → Hp → Prop, (∃ m, W 0 m H1) ∧ ∀ j n H, W j n H → (J.stop j H ∧ N H) ∨
      (J.go j H ∧ ∃ N1 : Hp → Prop, (∀ H', N1 H' → ∃ n', n' < n ∧ W (j + 1) n' H') ∧ ∀ x H', J.yld j H x H' → c.g x (wipe σ c.vs) H' fun σ3 H5 => wipe σ3 c.vs = wipe σ c.vs ∧ c.tt σ3 H5 fun b H6 => if b = true then bodyN te D cs σ3 H6 N1 else N1 H6)
structure ClOk (Y : Cx) (q : Comprehension) (c : Cl) : Prop where
  sync : q.is_async = 0
  pi : PI Y q.target q.iter c.wi
  pg : PG Y q.target c.g
  pt : PTs Y q.ifs c.tt
  fold : ∀ x, foldedSetIterable q.iter Y.env x = pure x
def goesK (e elt : Expr) (a : Value) (env : Env) (k : Nat) : List Comprehension → Sem PySem.Fin → Sem PySem.Fin
  | [] => goesIn elt a env
  | q :: _ => goesOut e q.iter k a env
def Chain : List Cl → Prop
  | [] => True
  | c :: cs => (∀ i ∈ topVs cs, i ∈ c.vs) ∧ Chain cs
theorem drop_head {α : Type} {gs qs : List α} {q : α} {k : Nat} (h : gs.drop k = q :: qs) : gs[k]? = some q ∧ gs.drop (k + 1) = qs := by
  have h1 : (gs.drop k)[0]? = some q := by rw [h] <;> rfl
  rw [List.getElem?_drop, Nat.add_zero] at h1
  refine ⟨h1, ?_⟩
  rw [← List.drop_drop, h] <;> rfl
theorem drop_nil' {α : Type} {gs : List α} {k : Nat} (h : gs.drop k = []) : gs[k]? = none := by
  rw [List.getElem?_eq_none_iff]
  exact List.drop_eq_nil_iff.mp h
section
variable {Y : Cx} {elt : Expr} {gs : List Comprehension} {sc : Scope} {p : Pos} {te : TE} {D : Addr}
theorem turnK {k : Nat} {q : Comprehension} {qs : List Comprehension} {a it : Value} {env : Env} (h0 : gs[k]? = some q) (hq : q.is_async = 0) (h1 : gs.drop (k + 1) = qs) (hs : ∀ r ∈ qs, r.is_async = 0) :
    compTurn (.ListComp elt gs sc p) k it a env = turnOf (.ListComp elt gs sc p) q.iter q.target q.ifs (goesK (.ListComp elt gs sc p) elt a env k qs) k it a env := by
  obtain ⟨t, i, ifs, as⟩ := q
  simp only at hq
  subst hq
  cases qs with
  | nil => exact turn_in' h0 (drop_nil' h1)
  | cons r rs =>
    obtain ⟨t', i', ifs', as'⟩ := r
    have hr : as' = 0 := hs ⟨t', i', ifs', as'⟩ List.mem_cons_self
    subst hr
    exact turn_out' h0 (drop_head h1).1
theorem body_ok (calm : Y.calm = true) (hx : ∀ e s, Y.xe e s → False) (pe : PE Y elt te) : ∀ (cs : List Cl) (qs : List Comprehension) (k : Nat), gs.drop (k + 1) = qs → Paired (ClOk Y) qs cs → Chain cs → ∀ (pins : List (Addr × Obj)) (s : Shared) (σ : L2.St) (H : Hp) (N : Hp → Prop), Inv Y pins σ H s → bodyN te D cs σ H N →
    ∀ (more : Sem PySem.Fin) (Qf : PySem.Fin → Shared → Prop) (R : Result → Shared → Prop), (∀ s' H', Inv Y pins (wipe σ (topVs cs)) H' s' → N H' → wpAny (model Y.prog Y.w) Y.A more Qf (notedR Y.prog Y.w Y.A R Y.env) s') →
      wpAny (model Y.prog Y.w) Y.A (goesK (.ListComp elt gs sc p) elt (.ref D) Y.env k qs more) Qf (notedR Y.prog Y.w Y.A R Y.env) s
  | [], [], k, hd, .nil, _, pins, s, σ, H, N, I, h, more, Qf, R, fin => by
    show wpAny _ _ (goesIn elt (.ref D) Y.env more) _ _ _
    refine wpAny_bind (wpAny_bind (wpAny_mono (pe.run pins s σ H _ I h) (fun z s1 hz => ?_) fun e s' he => (hx e s' he).elim))
    obtain ⟨y, H1, I1, r1, acc, hD, few, nx⟩ := hz
    refine wpAny_bind ?_
    exact app_ok I1 hD few r1 fun s2 I2 => wpAny_pure (fin s2 _ I2 nx)
  | c :: cs, q :: qs, k, hd, .cons hc ht, hch, pins, s, σ, H, N, I, h, more, Qf, R, fin => by
    obtain ⟨gk, gd⟩ := drop_head hd
    have asy : ∀ r ∈ qs, r.is_async = 0 := by
      have go : ∀ {qs : List Comprehension} {cs : List Cl}, Paired (ClOk Y) qs cs → ∀ r ∈ qs, r.is_async = 0 := by
        intro qs cs h
        induction h with
        | nil => intro r hr; exact nomatch hr
        | cons h _ ih =>
          intro r hr
          rcases List.mem_cons.mp hr with rfl | hr
          · exact h.sync
          · exact ih r hr
      exact go ht
    show wpAny _ _ (goesOut (.ListComp elt gs sc p) q.iter k (.ref D) Y.env more) _ _ _
    refine wpAny_bind (wpAny_mono (hc.pi.run pins s σ H _ I h) (fun xv s1 h1 => ?_) fun e s' he => (hx e s' he).elim)
    refine wpAny_bind (wpAny_standAt (wpAny_bind (wpAny_of_eq (hc.fold xv) (wpAny_bind (wpAny_holding (wpAny_mono h1 (fun itv s2 h2 => ?_) fun e s' he => (hx e s' he).elim))))))
    obtain ⟨it1, fp1, tn1, J1, H1, e1, I1, T1, st1, f1, W, ⟨m1, w1⟩, turn⟩ := h2
    subst e1
    have stat : ∀ {G : Hp}, (∀ b ∈ fp1, G b = none) → ∀ b ∈ fp1, FpOk Y pins G b := fun hn b hb => ⟨hn b hb, (f1 b hb).2⟩
    have loop : codeAny (model Y.prog Y.w) Y.A (.compLoop (.ListComp elt gs sc p) (k + 1) (.ref it1) (.ref D) Y.env) (fun r s' => match r with
        | .ok _ => ∃ G, Inv Y pins (wipe σ c.vs) G s' ∧ N G
        | .error _ => False) s2 := by
      refine loop_gen (M := goesK (.ListComp elt gs sc p) elt (.ref D) Y.env (k + 1) qs) (fun it => turnK gk hc.sync gd asy) (fun n t => ∃ j G, Inv Y pins (wipe σ c.vs) G t ∧ tn1 j t.heap ∧ (∀ b ∈ fp1, G b = none) ∧ W j n G) ?_ m1 ⟨0, H1, I1.weak (wipe_length _ _) (fun j v e => (wipe_some e).1), st1, fun b hb => (f1 b hb).1, w1⟩
      rintro n s3 ⟨j, H3, I3, st3, n3, w3⟩
      rcases turn j n H3 w3 with ⟨stop, nx⟩ | ⟨go, N1, hN1, step⟩
      · refine thnF (T1.done Y rfl rfl rfl calm j _ s3 (wipe σ c.vs) H3 (fun _ _ => False) I3 (stat n3) st3 stop) fun r s4 ⟨hr, I4⟩ => ?_
        subst hr
        exact ⟨H3, I4, nx⟩
      · refine thnF (T1.item Y rfl rfl rfl calm j _ s3 (wipe σ c.vs) H3 (fun _ _ => False) I3 (stat n3) st3 go) fun r s4 ⟨u, hr, h4⟩ => ?_
        subst hr
        refine thnF h4 fun _ s5 ⟨x, H5, I5, r5, y5, st5, n5⟩ => ?_
        refine wpAny_mono (hc.pg.run _ s5 (wipe σ c.vs) H5 x u _ (I5.pinned (stat n5) (T1.obj _ _ st5)) r5 (step x H5 y5)) (fun _ s6 h6 => ?_) fun e s' he => (hx e s' he).elim
        obtain ⟨σ6, H6, I6, hw6, q6⟩ := h6
        refine wpAny_mono (hc.pt.run _ s6 σ6 H6 _ I6 q6) (fun b s7 h7 => ?_) fun e s' he => (hx e s' he).elim
        obtain ⟨H7, I7, q7⟩ := h7
        have back : ∀ {t : Shared} {G : Hp} {τ : L2.St}, Inv Y (pins ++ pinsAt fp1 s5.heap) τ G t → (wipe σ c.vs).length = τ.length → (∀ (i : Nat) v, (wipe σ c.vs)[i]? = some (some v) → τ[i]? = some (some v)) → N1 G →
            ∃ m, m < n ∧ ∃ j G, Inv Y pins (wipe σ c.vs) G t ∧ tn1 j t.heap ∧ (∀ b ∈ fp1, G b = none) ∧ W j m G := fun {t G τ} J hl hkn nx => by
          obtain ⟨n', lt, w'⟩ := hN1 G nx
          have held : ∀ b ∈ fp1, ∀ o, s5.heap.get? b = some o → t.heap.get? b = some o ∧ G b = none := fun b hb o e =>
            have z := J.pin (b, o) (List.mem_append_right _ (List.mem_append_right _ (mem_pinsAt hb e)))
            ⟨z.1, z.2.1⟩
          refine ⟨n', lt, j + 1, G, J.unpinned.weak hl hkn, T1.keep _ _ _ st5 fun b hb o e => (held b hb o e).1, fun b hb => ?_, w'⟩
          obtain ⟨o, e, _⟩ := T1.obj _ _ st5 b hb
          exact (held b hb o e).2
        have l6 : (wipe σ c.vs).length = σ6.length := by rw [← hw6, wipe_length]
        have k6 : ∀ (i : Nat) v, (wipe σ c.vs)[i]? = some (some v) → σ6[i]? = some (some v) ∧ i ∉ c.vs := fun i v e => by
          rw [← hw6] at e
          exact wipe_some e
        cases b with
        | false => exact back I7 l6 (fun i v e => (k6 i v e).1) q7
        | true =>
          intro more2 Qf2 hm
          refine body_ok calm hx pe cs qs (k + 1) gd ht hch.2 (pins ++ pinsAt fp1 s5.heap) s7 σ6 H7 N1 I7 q7 more2 Qf2 _ fun t G J nx => hm t (back J (l6.trans (wipe_length σ6 _).symm) (fun i v e => ?_) nx)
          obtain ⟨e1, e2⟩ := k6 i v e
          rw [wipe_out fun z => e2 (hch.1 i z)]
          exact e1
    refine wpAny_bind (wpAny_runOwn ?_)
    rw [Around.mark_none]
    have gk' : gs[k + 1]? = some ⟨q.target, q.iter, q.ifs, 0⟩ := by
      rw [gk]
      obtain ⟨t, i, ifs, a0⟩ := q
      have z : a0 = 0 := hc.sync
      rw [z]
    refine codeAny_mono (start_gen loop gk' (T1.self Y.A 0 _ _ _ st1 loop)) fun r s' hr => ?_
    cases r with
    | ok f =>
      obtain ⟨G, J, nx⟩ := hr
      exact fin s' G J nx
    | error e => exact hr.elim
end
/-- [elt for .. for .. for ..]: c the first clause, cs the others -/
def tLcN (c : Cl) (cs : List Cl) (te : TE) : TE := fun σ H Q => c.wi σ H fun J H1 => ∀ D, H1 D = none → ∃ W : Nat → Nat → Hp → Prop, (∃ m, W 0 m (upd H1 D (.lst []))) ∧ ∀ i n H, W i n H → (J.stop i H ∧ Q (.ref D) H) ∨
  (J.go i H ∧ ∃ N1 : Hp → Prop, (∀ H', N1 H' → ∃ n', n' < n ∧ W (i + 1) n' H') ∧ ∀ x H', J.yld i H x H' → c.g x (wipe σ c.vs) H' fun σ2 H2 => wipe σ2 c.vs = wipe σ c.vs ∧ c.tt σ2 H2 fun b H3 => if b = true then bodyN te D cs σ2 H3 N1 else N1 H3)
section
variable {X : Cx}
theorem pe_lcN {elt : Expr} {q : Comprehension} {qs : List Comprehension} {sc : Scope} {own : List (Str × Nat)} {p : Pos} {c : Cl} {cs : List Cl} {te : TE} (calm : X.calm = true) (nd : X.N.Nodup) (as : q.is_async = 0) (hi : PI X q.target q.iter c.wi) (hf : ∀ x, foldedSetIterable q.iter X.env x = pure x)
    (ok : BlkOk X.N X.env.scope sc own) (hvs : c.vs = own.map (·.2)) (hch : Chain (c :: cs)) (hg : ∀ s H C cl fp, PG (X.blk s H sc (compEnvC sc cl C X.env) fp) q.target c.g) (ht : ∀ s H C cl fp, PTs (X.blk s H sc (compEnvC sc cl C X.env) fp) q.ifs c.tt)
    (hcs : ∀ s H C cl fp, Paired (ClOk (X.blk s H sc (compEnvC sc cl C X.env) fp)) qs cs) (he : ∀ s H C cl fp, PE (X.blk s H sc (compEnvC sc cl C X.env) fp) elt te) : PE X (.ListComp elt (q :: qs) sc p) (tLcN c cs te) := by
  obtain ⟨t, i, ifs, a0⟩ := q
  have as' : a0 = 0 := as
  subst as'
  refine ⟨fun pins s σ H Q I h => ?_⟩
  rw [arm_eval_ListComp]
  have clo : ∀ y ∈ sc.names, y.2 = .free → ∃ z, X.env.cells.lookup y.1 = some z := fun y hy e => (ok.free y hy e).elim (fun k => I.ok.has _ (.inl k)) fun k => I.ok.has _ (.inr k)
  show wpAny _ _ (comprehension (.ListComp elt (⟨t, i, ifs, 0⟩ :: qs) sc p) sc X.env (firstIterPos (⟨t, i, ifs, 0⟩ :: qs) p) (newList []) false (eval i X.env)) _ _ _
  refine wpAny_comprehension_free (use := none) rfl hf (closure_ok clo) ok.kind (fun y hy e => by rw [ok.uniq y hy, e]) (thn (hi.run pins s σ H _ I h) fun _ s1 hx => thn hx fun _ s2 ⟨a, fp, tn, J, H2, ea, I2, T, st2, f2, qq⟩ => ?_)
  subst ea
  refine wpAny_newObj_type (newEnv_comp ?_) (by show 0 ≤ sizeLine; decide)
  obtain ⟨D, hD⟩ : ∃ D, D = s2.heap.objs.size := ⟨_, rfl⟩
  rw [← hD]
  have nD : H2 D = none := I2.hok.fresh (Nat.le_of_eq hD.symm)
  obtain ⟨W, ⟨m0, w0⟩, turn⟩ := qq D nD
  have I3 : Inv X pins σ (upd H2 D (.lst [])) ⟨s2.heap.push { cls := .type "list", data := .seq ([] : List Value).toArray }, s2.gens, s2.drawn, s2.toks, s2.os⟩ := by
    refine I2.laid (t' := s2.toks) (fun b o e => Heap.get?_push_of_some _ e) (Nat.le_of_eq hD.symm) ⟨Nat.zero_le _, [], 0, .nil, ?_⟩
    rw [hD]
    exact Heap.get?_push_size _ rfl
  have live : ∀ b ∈ fp, b < s2.heap.objs.size := fun b hb => (T.obj _ _ st2 b hb).elim fun o e => Heap.lt_size e.1
  have f3 : ∀ b ∈ fp, FpOk X pins (upd H2 D (.lst [])) b ∧ b < (s2.heap.push { cls := .type "list", data := .seq ([] : List Value).toArray }).objs.size := fun b hb =>
    ⟨⟨(upd_ne (by rw [hD]; exact Nat.ne_of_lt (live b hb))).trans (f2 b hb).1, (f2 b hb).2⟩, by rw [Heap.size_push]; exact Nat.lt_succ_of_lt (live b hb)⟩
  have st3 : tn 0 (s2.heap.push { cls := .type "list", data := .seq ([] : List Value).toArray }) := T.keep _ _ _ st2 fun b _ o e => Heap.get?_push_of_some _ e
  have I4 := block_start I3 ok nd f3
  generalize hs3 : (⟨s2.heap.push { cls := .type "list", data := .seq ([] : List Value).toArray }, s2.gens, s2.drawn, s2.toks, s2.os⟩ : Shared) = s3 at I3 I4 ⊢
  have h3 : s3.heap = s2.heap.push { cls := .type "list", data := .seq ([] : List Value).toArray } := by rw [← hs3]
  rw [← h3] at f3 st3
  have pg := hg s3 (upd H2 D (.lst [])) s3.heap.objs.size (cellsFrom (s3.heap.objs.size + 1) sc.names (cloFrom X.env.cells sc.names [])) fp
  have pt := ht s3 (upd H2 D (.lst [])) s3.heap.objs.size (cellsFrom (s3.heap.objs.size + 1) sc.names (cloFrom X.env.cells sc.names [])) fp
  have pc := hcs s3 (upd H2 D (.lst [])) s3.heap.objs.size (cellsFrom (s3.heap.objs.size + 1) sc.names (cloFrom X.env.cells sc.names [])) fp
  have pe := he s3 (upd H2 D (.lst [])) s3.heap.objs.size (cellsFrom (s3.heap.objs.size + 1) sc.names (cloFrom X.env.cells sc.names [])) fp
  have unt : ∀ b ∈ fp, (upd H2 D (.lst [])) b = none := fun b hb => (f3 b hb).1.1
  show codeAny _ _ (.compStart (.ListComp elt (⟨t, i, ifs, 0⟩ :: qs) sc p) 0 (.ref a) (.ref D) (compEnvC sc (cellsFrom (s3.heap.objs.size + 1) sc.names (cloFrom X.env.cells sc.names [])) s3.heap.objs.size X.env)) _ ({ s3 with heap := pushCells (s3.heap.push { cls := .type "dict", data := .dict #[] }) sc.names } : Shared)
  obtain ⟨ce, hce⟩ : ∃ z, z = compEnvC sc (cellsFrom (s3.heap.objs.size + 1) sc.names (cloFrom X.env.cells sc.names [])) s3.heap.objs.size X.env := ⟨_, rfl⟩
  rw [← hce] at I4 pg pt pc pe ⊢
  have cL : ce.locals = s3.heap.objs.size := by rw [hce] <;> rfl
  obtain ⟨H3, hH3⟩ : ∃ G, G = upd H2 D (.lst []) := ⟨_, rfl⟩
  rw [← hH3] at I3 I4 pg pt pc pe w0 unt f3
  generalize hs4 : ({ s3 with heap := pushCells (s3.heap.push { cls := .type "dict", data := .dict #[] }) sc.names } : Shared) = s4 at I4 ⊢
  rw [← hvs] at I4
  have st4 : tn 0 s4.heap := T.keep _ _ _ st3 fun b _ o e => by
    rw [← hs4]
    exact pushCells_keeps _ _ _ _ (Heap.get?_push_of_some _ e)
  have pinned : ∀ {σ' : L2.St} {G : Hp} {t : Shared}, Inv (X.blk s3 H3 sc ce fp) [] σ' G t → (∀ b ∈ fp, G b = none) → ∀ b ∈ fp, FpOk (X.blk s3 H3 sc ce fp) [] G b := fun {σ' G t} J' hn b hb =>
    ⟨hn b hb, (J'.ok.exf b hb).1, J'.ok.exfs b hb, .inl hb, fun x z e => (J'.ok.exf b hb).2 x z e, fun r hr => absurd (show r ∈ ([] : List (Addr × Obj)) ++ [] from hr) (by simp)⟩
  have asy : ∀ r ∈ qs, r.is_async = 0 := by
    have go : ∀ {Y : Cx} {qs : List Comprehension} {cs : List Cl}, Paired (ClOk Y) qs cs → ∀ r ∈ qs, r.is_async = 0 := by
      intro Y qs cs h
      induction h with
      | nil => intro r hr; exact nomatch hr
      | cons h _ ih =>
        intro r hr
        rcases List.mem_cons.mp hr with rfl | hr
        · exact h.sync
        · exact ih r hr
    exact go pc
  have loop : codeAny (model X.prog X.w) X.A (.compLoop (.ListComp elt (⟨t, i, ifs, 0⟩ :: qs) sc p) 0 (.ref a) (.ref D) ce) (compPost (model X.prog X.w) X.A X.xe none (EP X pins σ Q) (.ref D) s3.heap.objs.size) s4 := by
    refine loop_gen (M := goesK (.ListComp elt (⟨t, i, ifs, 0⟩ :: qs) sc p) elt (.ref D) ce 0 qs) (fun it => turnK rfl as rfl asy) (fun n t => ∃ i G, Inv (X.blk s3 H3 sc ce fp) [] (wipe σ c.vs) G t ∧ tn i t.heap ∧ (∀ b ∈ fp, G b = none) ∧ W i n G) ?_ m0 ⟨0, H3, I4, st4, unt, w0⟩
    rintro n t5 ⟨i, H5, I5, st5, n5, w5⟩
    rcases turn i n H5 w5 with ⟨stop, nx⟩ | ⟨go, N1, hN, step⟩
    · refine thnF (T.done (X.blk s3 H3 sc ce fp) rfl rfl rfl calm i [] t5 _ H5 (fun _ _ => False) I5 (pinned I5 n5) st5 stop) fun r t6 ⟨hr, I6⟩ => ?_
      subst hr
      have nC : H5 s3.heap.objs.size = none := by
        have z : H5 ce.locals = none := I6.free
        rwa [cL] at z
      obtain ⟨mm, hn, _⟩ := I6.loc
      have hn' : t6.heap.Ns ce.locals mm := hn
      rw [cL] at hn'
      have I7 : Inv X pins σ H5 t6 := I3.call' (ch := fp) I6.os I6.base I6.hok I6.bare fun b hb => ⟨(f3 b hb).1.2.2.2.1, (f3 b hb).1.2.1, (f3 b hb).1.2.2.2.2.1, (f3 b hb).1.2.2.2.2.2⟩
      refine ⟨mm, hn', fun h2 sb => ?_⟩
      obtain ⟨f0, f1, f2, f3, f4, f5⟩ := I3.fpOk (Nat.le_refl _) nC
      exact ⟨.ref D, H5, I7.turned (t' := t6.toks) (fun b o hb e => (sb.2 b hb).trans e) f0 f1 f3 f4 f5, rfl, nx⟩
    · refine thnF (T.item (X.blk s3 H3 sc ce fp) rfl rfl rfl calm i [] t5 _ H5 (fun _ _ => False) I5 (pinned I5 n5) st5 go) fun r t6 ⟨u, hr, h6⟩ => ?_
      subst hr
      refine thnF h6 fun _ t7 ⟨x, H7, I7, r7, y7, st7, n7⟩ => ?_
      refine thnF (pg.run _ t7 _ H7 x u _ (I7.pinned (pinned I7 n7) (T.obj _ _ st7)) r7 (step x H7 y7)) fun _ t8 ⟨σ8, H8, I8, hw8, q8⟩ => ?_
      refine thnF (pt.run _ t8 σ8 H8 _ I8 q8) fun b t9 ⟨H9, I9, q9⟩ => ?_
      have back : ∀ {t : Shared} {G : Hp} {τ : L2.St}, Inv (X.blk s3 H3 sc ce fp) ([] ++ pinsAt fp t7.heap) τ G t → (wipe σ c.vs).length = τ.length → (∀ (i : Nat) v, (wipe σ c.vs)[i]? = some (some v) → τ[i]? = some (some v)) → N1 G → ∃ m, m < n ∧ ∃ i G, Inv (X.blk s3 H3 sc ce fp) [] (wipe σ c.vs) G t ∧ tn i t.heap ∧ (∀ b ∈ fp, G b = none) ∧ W i m G := fun {t G τ} J' hl hk nx => by
        obtain ⟨m', lt, w'⟩ := hN G nx
        have held : ∀ b ∈ fp, ∀ o, t7.heap.get? b = some o → t.heap.get? b = some o ∧ G b = none := fun b hb o e =>
          have z := J'.pin (b, o) (List.mem_append_right _ (List.mem_append_right _ (mem_pinsAt hb e)))
          ⟨z.1, z.2.1⟩
        refine ⟨m', lt, i + 1, G, (J'.unpinned (pins := [])).weak hl hk, T.keep _ _ _ st7 fun b hb o e => (held b hb o e).1, fun b hb => ?_, w'⟩
        obtain ⟨o, e, _⟩ := T.obj _ _ st7 b hb
        exact (held b hb o e).2
      have l8 : (wipe σ c.vs).length = σ8.length := by rw [← hw8, wipe_length]
      have k8 : ∀ (i : Nat) v, (wipe σ c.vs)[i]? = some (some v) → σ8[i]? = some (some v) ∧ i ∉ c.vs := fun i v e => by
        rw [← hw8] at e
        exact wipe_some e
      cases b with
      | false => exact back I9 l8 (fun i v e => (k8 i v e).1) q9
      | true =>
        intro more Qf hm
        refine body_ok (Y := X.blk s3 H3 sc ce fp) calm (fun _ _ z => z) pe cs qs 0 rfl pc hch.2 ([] ++ pinsAt fp t7.heap) t9 σ8 H9 N1 I9 q9 more Qf _ fun t G J nx => hm t (back J (l8.trans (wipe_length σ8 _).symm) (fun i v e => ?_) nx)
        obtain ⟨e1, e2⟩ := k8 i v e
        rw [wipe_out fun z => e2 (hch.1 i z)]
        exact e1
  exact codeAny_compStart_list loop (T.self X.A 0 _ _ _ st4 loop)
end
end Yt

set_option Elab.async false
set_option linter.all false
set_option maxRecDepth 100000
set_option maxHeartbeats 2000000
namespace Yt
open PySem PySem.Spec PyProof.Rows L2
abbrev sCheckTable : Stmt := top 18
abbrev sCheckSame : Stmt := top 20
abbrev sAllRows : Stmt := top 23
abbrev sFull : Stmt := top 24
/-! ### a list of rows, as it is made at D -/
def Built (D : Addr) (H0 : Hp) (rs : List (List Str)) (Hx : Hp) : Prop := ∃ M : List (Addr × List Str), Hx D = some (.lst (M.map fun e => V.ref e.1)) ∧ M.map (·.2) = rs ∧ (∀ e ∈ M, e.1 ≠ D ∧ Hx e.1 = some (.tup (e.2.map V.str))) ∧ Same H0 Hx
theorem Built.first {D : Addr} {H0 : Hp} (hD : H0 D = none) : Built D H0 [] (upd H0 D (.lst [])) := ⟨[], upd_same, rfl, (fun e he => nomatch he), same_new hD⟩
theorem Built.more {D : Addr} {H0 Hx H' : Hp} {rs : List (List Str)} (B : Built D H0 rs Hx) (hD : H0 D = none) {t : Addr} {r : List Str} (s : Same Hx H') (ht : H' t = some (.tup (r.map V.str))) :
    ∃ acc, H' D = some (.lst acc) ∧ acc.length = rs.length ∧ Built D H0 (rs ++ [r]) (upd H' D (.lst (acc ++ [.ref t]))) := by
  obtain ⟨M, h1, h2, h3, h4⟩ := B
  have tD : t ≠ D := fun z => by
    rw [z, s _ _ h1] at ht
    cases ht
  refine ⟨_, s _ _ h1, by rw [List.length_map, ← h2, List.length_map], M ++ [(t, r)], by rw [upd_same, List.map_append] <;> rfl, by rw [List.map_append, h2] <;> rfl, fun e he => ?_, fun b o e => (upd_ne (ne_of_none e hD)).trans (s _ _ (h4 _ _ e))⟩
  rcases List.mem_append.mp he with he | he
  · exact ⟨(h3 e he).1, (upd_ne (h3 e he).1).trans (s _ _ (h3 e he).2)⟩
  · rw [List.mem_singleton.mp he]
    exact ⟨tD, (upd_ne tD).trans ht⟩
/-! [.. for .. for ..]: the two clauses -/
theorem lc2_out {J : It} {n : Nat} {G : Hp → Prop} {S : Nat → Hp → V → Hp → Prop} (w : Walk J n G S) {g : TG} {tt : TT} {wi1 : TI} {g1 : TG} {tt1 : TT} {te : TE} {vs vs1 : List Nat} {σ : L2.St} {D : Addr} {H1 : Hp} {R : Hp → Prop} (Pv : Nat → Hp → Prop) (h0 : Pv 0 H1) (hG : ∀ i H, i ≤ n → Pv i H → G H)
    (hs : ∀ i x H H', i < n → Pv i H → S i H x H' → g x (wipe σ vs) H' fun σ2 H2 => wipe σ2 vs = wipe σ vs ∧ tt σ2 H2 fun b H3 =>
      if b = true then wi1 σ2 H3 fun J1 H4 => ∃ W1 : Nat → Nat → Hp → Prop, (∃ m, W1 0 m H4) ∧ ∀ j k H, W1 j k H →
        (J1.stop j H ∧ Pv (i + 1) H) ∨ (J1.go j H ∧ ∃ Nx1 : Hp → Prop, (∀ H', Nx1 H' → ∃ k', k' < k ∧ W1 (j + 1) k' H') ∧ ∀ x H', J1.yld j H x H' → g1 x (wipe σ2 vs1) H' fun σ3 H5 => wipe σ3 vs1 = wipe σ2 vs1 ∧ tt1 σ3 H5 fun b H6 =>
          if b = true then te σ3 H6 fun y H7 => ∃ acc, H7 D = some (.lst acc) ∧ acc.length < sizeLine ∧ Nx1 (upd H7 D (.lst (acc ++ [y]))) else Nx1 H6)
      else Pv (i + 1) H3) (hd : ∀ H, Pv n H → R H) :
    ∃ W : Nat → Nat → Hp → Prop, (∃ m, W 0 m H1) ∧ ∀ i m H, W i m H →
    (J.stop i H ∧ R H) ∨ (J.go i H ∧ ∃ Nx : Hp → Prop, (∀ H', Nx H' → ∃ m', m' < m ∧ W (i + 1) m' H') ∧ ∀ x H', J.yld i H x H' → g x (wipe σ vs) H' fun σ2 H2 => wipe σ2 vs = wipe σ vs ∧ tt σ2 H2 fun b H3 =>
      if b = true then wi1 σ2 H3 fun J1 H4 => ∃ W1 : Nat → Nat → Hp → Prop, (∃ m, W1 0 m H4) ∧ ∀ j k H, W1 j k H →
        (J1.stop j H ∧ Nx H) ∨ (J1.go j H ∧ ∃ Nx1 : Hp → Prop, (∀ H', Nx1 H' → ∃ k', k' < k ∧ W1 (j + 1) k' H') ∧ ∀ x H', J1.yld j H x H' → g1 x (wipe σ2 vs1) H' fun σ3 H5 => wipe σ3 vs1 = wipe σ2 vs1 ∧ tt1 σ3 H5 fun b H6 =>
          if b = true then te σ3 H6 fun y H7 => ∃ acc, H7 D = some (.lst acc) ∧ acc.length < sizeLine ∧ Nx1 (upd H7 D (.lst (acc ++ [y]))) else Nx1 H6)
      else Nx H3) := by
  refine ⟨fun i m H => m = n - i ∧ i ≤ n ∧ Pv i H, ⟨_, rfl, Nat.zero_le _, h0⟩, ?_⟩
  rintro i m H ⟨rfl, le, pv⟩
  rcases Nat.lt_or_ge i n with lt | ge
  · exact .inr ⟨w.goes i H lt (hG i H le pv), Pv (i + 1), fun H' p' => ⟨n - (i + 1), by omega, rfl, lt, p'⟩, fun x H' y => hs i x H H' lt pv (w.yields i H x H' lt (hG i H le pv) y)⟩
  · obtain rfl : i = n := Nat.le_antisymm le ge
    exact .inl ⟨w.stops H (hG _ H le pv), hd H pv⟩
theorem lc2_in {J : It} {n : Nat} {G : Hp → Prop} {S : Nat → Hp → V → Hp → Prop} (w : Walk J n G S) {g1 : TG} {tt1 : TT} {te : TE} {vs1 : List Nat} {σ : L2.St} {D : Addr} {H1 : Hp} {R : Hp → Prop} (Pv : Nat → Hp → Prop) (h0 : Pv 0 H1) (hG : ∀ i H, i ≤ n → Pv i H → G H)
    (hs : ∀ i x H H', i < n → Pv i H → S i H x H' → g1 x (wipe σ vs1) H' fun σ3 H5 => wipe σ3 vs1 = wipe σ vs1 ∧ tt1 σ3 H5 fun b H6 =>
      if b = true then te σ3 H6 fun y H7 => ∃ acc, H7 D = some (.lst acc) ∧ acc.length < sizeLine ∧ Pv (i + 1) (upd H7 D (.lst (acc ++ [y]))) else Pv (i + 1) H6) (hd : ∀ H, Pv n H → R H) :
    ∃ W1 : Nat → Nat → Hp → Prop, (∃ m, W1 0 m H1) ∧ ∀ j k H, W1 j k H →
      (J.stop j H ∧ R H) ∨ (J.go j H ∧ ∃ Nx1 : Hp → Prop, (∀ H', Nx1 H' → ∃ k', k' < k ∧ W1 (j + 1) k' H') ∧ ∀ x H', J.yld j H x H' → g1 x (wipe σ vs1) H' fun σ3 H5 => wipe σ3 vs1 = wipe σ vs1 ∧ tt1 σ3 H5 fun b H6 =>
        if b = true then te σ3 H6 fun y H7 => ∃ acc, H7 D = some (.lst acc) ∧ acc.length < sizeLine ∧ Nx1 (upd H7 D (.lst (acc ++ [y]))) else Nx1 H6) := by
  refine ⟨fun i m H => m = n - i ∧ i ≤ n ∧ Pv i H, ⟨_, rfl, Nat.zero_le _, h0⟩, ?_⟩
  rintro i m H ⟨rfl, le, pv⟩
  rcases Nat.lt_or_ge i n with lt | ge
  · exact .inr ⟨w.goes i H lt (hG i H le pv), Pv (i + 1), fun H' p' => ⟨n - (i + 1), by omega, rfl, lt, p'⟩, fun x H' y => hs i x H H' lt pv (w.yields i H x H' lt (hG i H le pv) y)⟩
  · obtain rfl : i = n := Nat.le_antisymm le ge
    exact .inl ⟨w.stops H (hG _ H le pv), hd H pv⟩
theorem take_flat {α β : Type} (xs : List α) (h : α → List β) {i : Nat} {x : α} (e : xs[i]? = some x) : (xs.take (i + 1)).flatMap h = (xs.take i).flatMap h ++ h x := by
  rw [List.take_add_one, e, List.flatMap_append]
  show _ ++ ([x] : List α).flatMap h = _
  rw [List.flatMap_cons, List.flatMap_nil, List.append_nil]
def rowsN (ms : List Str) : Nat → List (List Str)
  | 0 => [[]]
  | n + 1 => (rowsN ms n).flatMap fun r => ms.map fun c => r ++ [c]
theorem flat_len (ms : List Str) : ∀ l : List (List Str), (l.flatMap fun r => ms.map fun c => r ++ [c]).length = l.length * ms.length
  | [] => by simp
  | x :: l => by rw [List.flatMap_cons, List.length_append, flat_len ms l, List.length_map, List.length_cons, Nat.add_mul, Nat.one_mul, Nat.add_comm]
theorem rowsN_len (ms : List Str) : ∀ n, (rowsN ms n).length = ms.length ^ n
  | 0 => rfl
  | n + 1 => by
    show ((rowsN ms n).flatMap fun r => ms.map fun c => r ++ [c]).length = _
    have go : ∀ l : List (List Str), (l.flatMap fun r => ms.map fun c => r ++ [c]).length = l.length * ms.length := fun l => by
      induction l with
      | nil => simp
      | cons x l ih => rw [List.flatMap_cons, List.length_append, ih, List.length_map, List.length_cons, Nat.add_mul, Nat.one_mul, Nat.add_comm]
    rw [go, rowsN_len ms n, Nat.pow_succ]
theorem rowsN_mem (ms : List Str) : ∀ (n : Nat) (r : List Str), r ∈ rowsN ms n ↔ r.length = n ∧ ∀ z ∈ r, z ∈ ms
  | 0, r => by
    show r ∈ [[]] ↔ _
    rw [List.mem_singleton]
    refine ⟨fun e => by rw [e]; exact ⟨rfl, fun z hz => nomatch hz⟩, fun h => List.eq_nil_of_length_eq_zero h.1⟩
  | n + 1, r => by
    show r ∈ (rowsN ms n).flatMap _ ↔ _
    rw [List.mem_flatMap]
    constructor
    · rintro ⟨u, hu, h⟩
      obtain ⟨c, hc, rfl⟩ := List.mem_map.mp h
      obtain ⟨l, o⟩ := (rowsN_mem ms n u).mp hu
      refine ⟨by rw [List.length_append, l] <;> rfl, fun z hz => ?_⟩
      rcases List.mem_append.mp hz with hz | hz
      · exact o z hz
      · rw [List.mem_singleton.mp hz]
        exact hc
    · rintro ⟨l, o⟩
      rcases List.eq_nil_or_concat r with e | ⟨u, c, e⟩
      · rw [e] at l
        cases l
      · rw [List.concat_eq_append] at e
        subst e
        rw [List.length_append] at l
        exact ⟨u, (rowsN_mem ms n u).mpr ⟨by simpa using l, fun z hz => o z (List.mem_append_left _ hz)⟩, List.mem_map.mpr ⟨c, o c (List.mem_append_right _ (List.mem_singleton.mpr rfl)), rfl⟩⟩
section
variable {P : Program} {w : World} {K : PySem.W.Frag} {mg : Str → Option Value} {base : Heap} {f : Addr} {fd : FuncData}
theorem scAllRows : FnScope ["marks", "width", "rows", "_", "row", "mark"] ["marks", "width"] (defScope sAllRows) := ⟨rfl, rfl, rfl, by decide +kernel, rfl, by decide +kernel, by decide +kernel⟩
def spAllRows (K : PySem.W.Frag) : Sp := fun vs H Q _ => ∃ (a : Addr) (ms : List Str) (n : Nat), vs = [.ref a, .int n] ∧ H a = some (.lst (ms.map V.str)) ∧ ms.length ≤ 3 ∧ 1 ≤ n ∧ n ≤ 4 ∧
  ∀ (L : Addr) (M : List (Addr × List Str)) (H' : Hp), H' L = some (.lst (M.map fun e => V.ref e.1)) → M.map (·.2) = rowsN ms n → (∀ e ∈ M, H' e.1 = some (.tup (e.2.map V.str))) → Same H H' → Q (.ref L) H'
theorem ok_allrows (F : FnP K "all_rows" sAllRows f fd) (T : Nm mg) : FnOk P w K mg base CX0 1 f fd ["marks", "width"] (spAllRows K) := by
  refine F.ok scAllRows (fun vs H Q E h => ?_) (fun cdv A outer s H vs Q E hr h => ?_)
  · obtain ⟨a, ms, n, rfl, _⟩ := h
    rfl
  · obtain ⟨a, ms, n, rfl, ha, few, n1, n4, k⟩ := h
    refine ⟨_, PSs.nox (pss_cons (ps_set (i := 2) scAllRows.nd rfl (Or.inl rfl) (pe_lst (pa_cons (pe_tup pa_nil) pa_nil)))
      (pss_cons (ps_for PassesOwn.never rfl (pi_range1 rfl T.range (pa_cons (pv 1) pa_nil)) (pg_name (i := 3) scAllRows.nd rfl (Or.inl rfl))
        (pss_one (ps_setLc2 (i := 2) (own := [("row", 4), ("mark", 5)]) (vs1 := [5]) (g := gName 4) (tt := tYes) (g1 := gName 5) (tt1 := tYes) (wi1 := iList K (tVar 0)) (te := tOp (rCatA K) (tVar 4) (tTup (tCons (tVar 5) tNil))) rfl scAllRows.nd rfl rfl (sw_true rfl rfl rfl (by decide +kernel)) (pi_list (pv 2)) (blkOk_by (own := [("row", 4), ("mark", 5)]) (N := ["marks", "width", "rows", "_", "row", "mark"]) (sc := defScope sAllRows) (by decide +kernel)) (by decide)
          (fun _ _ _ _ _ => pg_name (i := 4) scAllRows.nd rfl (Or.inl rfl)) (fun _ _ _ _ _ => pts_nil)
          (fun _ _ _ _ _ => pi_list (pv 0)) (fun _ _ _ _ _ => pg_name (i := 5) scAllRows.nd rfl (Or.inl rfl)) (fun _ _ _ _ _ => pts_nil)
          (fun _ _ _ _ _ => pe_op op_catA (pv 4) (pe_tup (pa_cons (pv 5) pa_nil))))))
      (pss_one (ps_ret (pv 2))))), ?_⟩
    refine ⟨(by show 0 ≤ sizeLine; decide), fun t0 nt0 => ⟨(by show 1 ≤ sizeLine; decide), fun L0 nL0 => ?_⟩⟩
    have s0 : Same H (upd (upd H t0 (.tup [])) L0 (.lst [.ref t0])) := fun b o e => same_new nL0 _ _ (same_new nt0 _ _ e)
    refine ⟨_, rfl, _, rfl, by omega, by omega, for_range (lo := 0) (n := (n : Int).toNat) (fun i σ Hc => ∃ (v3 v4 v5 : Option V) (L : Addr) (M : List (Addr × List Str)), σ = [some (.ref a), some (.int n), some (.ref L), v3, v4, v5] ∧ Hc L = some (.lst (M.map fun e => V.ref e.1)) ∧ M.map (·.2) = rowsN ms i ∧ (∀ e ∈ M, Hc e.1 = some (.tup (e.2.map V.str))) ∧ Same H Hc)
      ⟨none, none, none, L0, [(t0, [])], rfl, upd_same, rfl, fun e he => ?_, s0⟩ ?_ ?_⟩
    · rw [List.mem_singleton.mp he]
      exact same_new nL0 _ _ upd_same
    · rintro i σ Hc hi ⟨v3, v4, v5, L, M, rfl, hL, eM, hM, sc⟩
      have i4 : i < 4 := by omega
      have lM : M.length ≤ 27 := by
        have := congrArg List.length eM
        rw [List.length_map, rowsN_len] at this
        rw [this]
        have h1 : ms.length ^ i ≤ 3 ^ i := Nat.pow_le_pow_left few i
        have h2 : 3 ^ i ≤ 3 ^ 3 := Nat.pow_le_pow_right (by decide) (by omega)
        exact Nat.le_trans h1 h2
      refine ⟨_, rfl, L, rfl, ⟨_, SqL.of hL⟩, fun D hD => ?_⟩
      refine lc2_out (walk_list (K := K) (a := L) (xs := M.map fun e => V.ref e.1)) (fun j Hx => Built D Hc ((((M.map (·.2)).take j).flatMap fun r => ms.map fun c => r ++ [c])) Hx) (Built.first hD) (fun j Hx _ ⟨_, _, _, _, z⟩ => SqL.of (z _ _ hL)) ?_ ?_
      · rintro j x Hx H' hj hB ⟨rfl, ex⟩
        rw [List.getElem?_map] at ex
        obtain ⟨e, he, rfl⟩ := Option.map_eq_some_iff.mp ex
        have em := List.mem_of_getElem? he
        have er : (M.map (·.2))[j]? = some e.2 := by rw [List.getElem?_map, he] <;> rfl
        refine ⟨rfl, ?_⟩
        obtain ⟨_, _, _, _, sx⟩ := id hB
        refine ⟨_, rfl, a, rfl, ⟨_, SqL.of (sx _ _ (sc _ _ ha))⟩, lc2_in (walk_list (K := K) (a := a) (xs := ms.map V.str)) (fun l Hy => Built D Hc ((((M.map (·.2)).take j).flatMap fun r => ms.map fun c => r ++ [c]) ++ (ms.take l).map fun c => e.2 ++ [c]) Hy) ?_ (fun l Hy _ ⟨_, _, _, _, z⟩ => SqL.of (z _ _ (sc _ _ ha))) ?_ ?_⟩
        · show Built D Hc (_ ++ []) _
          rw [List.append_nil]
          exact hB
        · rintro l y Hy H' hl hB2 ⟨rfl, ey⟩
          rw [List.getElem?_map] at ey
          obtain ⟨c, hc, rfl⟩ := Option.map_eq_some_iff.mp ey
          refine ⟨rfl, ?_⟩
          obtain ⟨_, _, _, _, sy⟩ := id hB2
          refine ⟨_, rfl, _, rfl, (by show 1 ≤ sizeLine; decide), fun t nt => ?_⟩
          have st := same_new (o := .tup [V.str c]) nt
          have he1 := st _ _ (sy _ _ (hM e em))
          have nx : (ms.take (l + 1)).map (fun c => e.2 ++ [c]) = (ms.take l).map (fun c => e.2 ++ [c]) ++ [e.2 ++ [c]] := by
            rw [List.take_add_one, hc, List.map_append]
            rfl
          have small : ((((M.map (·.2)).take j).flatMap fun r => ms.map fun c => r ++ [c]) ++ (ms.take l).map fun c => e.2 ++ [c]).length < 300 := by
            rw [List.length_append, flat_len, List.length_map, List.length_take, List.length_take, List.length_map]
            have h1 : min j M.length ≤ 27 := by omega
            have h2 : min j M.length * ms.length ≤ 27 * 3 := Nat.mul_le_mul h1 few
            omega
          have fin : ∀ {u : Addr} {G : Hp}, Same H' G → G u = some (.tup ((e.2 ++ [c]).map V.str)) → ∃ acc, G D = some (.lst acc) ∧ acc.length < sizeLine ∧ Built D Hc ((((M.map (·.2)).take j).flatMap fun r => ms.map fun c => r ++ [c]) ++ (ms.take (l + 1)).map fun c => e.2 ++ [c]) (upd G D (.lst (acc ++ [.ref u]))) := fun {u G} sG hu => by
            obtain ⟨acc, b1, b2, b3⟩ := hB2.more hD sG hu
            refine ⟨acc, b1, by rw [b2, sizeLine_eq]; omega, ?_⟩
            rw [nx, ← List.append_assoc]
            exact b3
          refine ⟨e.1, t, e.2.map V.str, [V.str c], rfl, rfl, SqT.of he1, SqT.of upd_same, ?_, fun e0 => ?_, fun _ z => by simp at z, fun _ _ p np => ?_⟩
          · have : e.2.length = i := ((rowsN_mem ms i e.2).mp (by rw [← eM]; exact List.mem_map.mpr ⟨e, em, rfl⟩)).1
            rw [List.length_map, this, sizeLine_eq]
            show i + 1 ≤ _
            omega
          · have e0 : e.2 = [] := by simpa using e0
            exact fin st (by rw [e0]; exact upd_same)
          · refine fin (fun b o z => same_new np _ _ (st _ _ z)) ?_
            rw [upd_same, List.map_append]
            rfl
        · intro Hy hB2
          have ml : (ms.map V.str).length = ms.length := List.length_map _
          rw [ml, List.take_length] at hB2
          rw [take_flat _ _ er]
          exact hB2
      · rintro Hx ⟨N, q1, q2, q3, q4⟩
        have ll : (M.map fun e => V.ref e.1).length = (M.map (·.2)).length := by rw [List.length_map, List.length_map]
        rw [ll, List.take_length, eM] at q2
        exact ⟨_, _, _, D, N, rfl, q1, q2, fun e he => (q3 e he).2, fun b o z => q4 _ _ (sc _ _ z)⟩
    · rintro σ Hc ⟨v3, v4, v5, L, M, rfl, hL, eM, hM, sc⟩
      have en : (n : Int).toNat = n := by omega
      rw [en] at eM
      exact ⟨_, rfl, k L M Hc hL eM hM sc⟩
end
end Yt

set_option Elab.async false
set_option linter.all false
set_option maxRecDepth 100000
set_option maxHeartbeats 2000000
namespace Yt
open PySem PySem.Spec PyProof.Rows L2
/-- the methods, as they are called -/
structure TM (P : Program) (w : World) (K : PySem.W.Frag) (mg : Str → Option Value) (base : Heap) (C : Addr) : Prop where
  tc : TC K mg C
  ini : ∃ f fd, FnOk P w K mg base CX0 4 f fd ["self", "marks", "width", "rows"] (spTInit C) ∧ Binds K fd ["self", "marks", "width", "rows"] [] ∧ Mk K C f
  marks : ∃ f fd, FnOk P w K mg base CX0 1 f fd ["self"] (spTMarks C) ∧ Binds K fd ["self"] [] ∧ Meth K C "marks" f
  width : ∃ f fd, FnOk P w K mg base CX0 1 f fd ["self"] (spTWidth C) ∧ Binds K fd ["self"] [] ∧ Meth K C "width" f
  rows : ∃ f fd, FnOk P w K mg base CX0 1 f fd ["self"] (spTRows C) ∧ Binds K fd ["self"] [] ∧ Meth K C "rows" f
  eq : ∃ f fd, FnOk P w K mg base CX0 1 f fd ["self", "other"] (spTEq C) ∧ Binds K fd ["self", "other"] [] ∧ PySem.W.findIn K (.ref C) "__eq__" = some (some (.ref f)) ∧ PySem.W.isFn K (.ref f) = true
/-- Table(..) -/
theorem make_table {C : Addr} {H : Hp} {a l : Addr} {d : Nat} {ms : List Str} {M0 : List (Addr × List Str)} {Q : VK} {E : XK} (ha : H a = some (.lst (ms.map V.str))) (ok : MarksOk ms) (hd : d ≤ 3) (hl : H l = some (.lst (M0.map fun e => V.ref e.1))) (hR : RowsIn H d M0) (over : ∀ e ∈ M0, ∀ z ∈ e.2, z ∈ ms)
    (k : ∀ (p : Addr) (H' : Hp) (rs : List (List Str)), H p = none → (∀ r, r ∈ rs ↔ r ∈ M0.map (·.2)) → TableAt C H' p ms d rs → Same H H' → Q (.ref p) H') :
    ∀ x dx, H x = none → H dx = none → dx ≠ x → spTInit C (.ref x :: ([.ref a, .int ((d + 1 : Nat) : Int), .ref l] ++ [])) (upd (upd H dx (.own x)) x (.ins C dx [])) (fun v H2 => v = .non ∧ Q (.ref x) H2) E := by
  intro x dx nx ndx ne
  have s : Same H (upd (upd H dx (.own x)) x (.ins C dx [])) := fun b o e => by
    rw [upd_ne (ne_of_none e nx), upd_ne (ne_of_none e ndx)]
    exact e
  exact ⟨x, dx, a, l, d, ms, M0, rfl, upd_same, s _ _ ha, ok, hd, s _ _ hl, hR.to s, over, fun H' rs mem T _ b => ⟨rfl, k x H' rs nx mem T fun c o e => b _ _ (ne_of_none e nx) (s _ _ e)⟩⟩
def Over (ms : List Str) (rs : List (List Str)) : Prop := ∀ r ∈ rs, ∀ z ∈ r, z ∈ ms
theorem Over.words {ms : List Str} {rs : List (List Str)} (o : Over ms rs) (ok : MarksOk ms) : Words ms rs := ⟨ok.2.2.2, fun r hr z hz => ok.2.2.2 z (o r hr z hz)⟩
theorem table_few {C : Addr} {H : Hp} {p : Addr} {ms : List Str} {d : Nat} {rs : List (List Str)} (T : TableAt C H p ms d rs) (o : Over ms rs) (few : ms.length ≤ 3) : rs.length ≤ 3 ^ (d + 1) := by
  obtain ⟨dx, A, R, M, h1, h2, h3, h4, rfl, h6⟩ := T
  have := nodup_few (M.map (·.2)) (rowsN ms (d + 1)) h6.nodup fun r hr => (rowsN_mem ms (d + 1) r).mpr ⟨by
    obtain ⟨e, he, rfl⟩ := List.mem_map.mp hr
    exact h4.len e he, o r hr⟩
  rw [rowsN_len] at this
  exact Nat.le_trans this (Nat.pow_le_pow_left few _)
section
variable {P : Program} {w : World} {K : PySem.W.Frag} {mg : Str → Option Value} {base : Heap} {f : Addr} {fd : FuncData} {C : Addr}
theorem scCheckTable : FnScope ["table"] ["table"] (defScope sCheckTable) := ⟨rfl, rfl, rfl, by decide +kernel, rfl, by decide +kernel, by decide +kernel⟩
abbrev TableArg (C : Addr) : Hp → List V → Prop := fun H vs => ∃ (p : Addr) (ms : List Str) (d : Nat) (rs : List (List Str)), vs = [.ref p] ∧ TableAt C H p ms d rs
theorem ok_checktable (F : FnP K "check_table" sCheckTable f fd) (TT : TC K mg C) (T6 : Nm6 mg) : FnOk P w K mg base CX0 1 f fd ["table"] (spNon (TableArg C)) := by
  refine F.ok scCheckTable (fun vs H Q E h => ?_) (fun cdv A outer s H vs Q E hr h => ?_)
  · obtain ⟨⟨p, ms, d, rs, rfl, _⟩, _⟩ := h
    rfl
  · obtain ⟨⟨p, ms, d, rs, rfl, ⟨dx, A1, R, M, h1, _⟩⟩, k⟩ := h
    refine ⟨_, PSs.nox (pss_one (ps_if (pt_not (pt_val (pe_callB call_isi (by rfl) T6.isi (by decide +kernel) (pa_cons (pv 0) (pa_cons (pe_glob (v := .ref C) rfl TT.mgC rfl) pa_nil))))) (pss_one ps_never) pss_nil)), ?_⟩
    refine ⟨_, rfl, _, _, .ref C, _, true, rfl, .own C, TT.is h1, TT.kit, _, rfl, ?_⟩
    refine iteF ?_
    exact k H fun _ _ e => e
theorem no_attr {A : Addr} {n : Int} {R : Addr} {m : Str} (h : (!decide (m = "_marks") && (!decide (m = "_width") && !decide (m = "_rows"))) = true) : (tf A n R).lookup m = none := by
  simp only [Bool.and_eq_true, Bool.not_eq_true', decide_eq_false_iff_not] at h
  exact tf_no A n R h.1 h.2.1 h.2.2
theorem scCheckSame : FnScope ["one", "other"] ["one", "other"] (defScope sCheckSame) := ⟨rfl, rfl, rfl, by decide +kernel, rfl, by decide +kernel, by decide +kernel⟩
abbrev SameArg (C : Addr) : Hp → List V → Prop := fun H vs => ∃ (p q : Addr) (ms : List Str) (d e : Nat) (rs us : List (List Str)), vs = [.ref p, .ref q] ∧ TableAt C H p ms d rs ∧ TableAt C H q ms e us ∧ MarksOk ms
theorem ok_checksame (F : FnP K "check_same_marks" sCheckSame f fd) (TM : TM P w K mg base C) : FnOk P w K mg base CX0 2 f fd ["one", "other"] (spNon (SameArg C)) := by
  obtain ⟨fM, dM, GM, bM, mM⟩ := TM.marks
  have TT := TM.tc
  refine F.ok scCheckSame (fun vs H Q E h => ?_) (fun cdv A outer s H vs Q E hr h => ?_)
  · obtain ⟨⟨p, q, ms, d, e, rs, us, rfl, _⟩, _⟩ := h
    rfl
  · obtain ⟨⟨p, q, ms, d, e, rs, us, rfl, T1, T2, ok⟩, k⟩ := h
    refine ⟨_, PSs.nox (pss_one (ps_if (pt_cmpR (op_neD hr.units) (pe_meth0 (pv 0) TT.cl mM GM hr bM .nil pass0) (pe_meth0 (pv 1) TT.cl mM GM hr bM .nil pass0) (nomark _)) (pss_one ps_never) pss_nil)), ?_⟩
    obtain ⟨dx, A1, R, M, h1, _⟩ := id T1
    refine ⟨_, rfl, p, dx, _, rfl, h1, no_attr (by decide +kernel), p, ms, d, rs, rfl, T1, fun L H1 nL hL s1 => ?_⟩
    obtain ⟨dy, B1, S, N, g1, _⟩ := id (T2.to s1)
    refine ⟨_, rfl, q, dy, _, rfl, g1, no_attr (by decide +kernel), q, ms, e, us, rfl, T2.to s1, fun L2 H2 nL2 hL2 s2 => ?_⟩
    refine ⟨strsD ms, strsD ms, .lst (SqL.of (s2 _ _ hL)) (dp_strs ms), .lst (SqL.of hL2) (dp_strs ms), strs_shaped ok.2.2.2, strs_shaped ok.2.2.2, false, ?_, ?_⟩
    · show V.bl (!PyData.eqvAll _ _) = _
      rw [eqv_strs, decide_eq_true rfl]
      rfl
    refine iteF ?_
    exact k H2 fun b o z => s2 _ _ (s1 _ _ z)
theorem scFull : FnScope ["marks", "width"] ["marks", "width"] (defScope sFull) := ⟨rfl, rfl, rfl, by decide +kernel, rfl, by decide +kernel, by decide +kernel⟩
def spFull (C : Addr) : Sp := fun vs H Q _ => ∃ (a : Addr) (ms : List Str) (d : Nat), vs = [.ref a, .int ((d + 1 : Nat) : Int)] ∧ H a = some (.lst (ms.map V.str)) ∧ MarksOk ms ∧ ms.length ≤ 3 ∧ d ≤ 3 ∧
  ∀ (p : Addr) (H' : Hp) (rs : List (List Str)), H p = none → (∀ r, r ∈ rs ↔ r.length = d + 1 ∧ ∀ z ∈ r, z ∈ ms) → TableAt C H' p ms d rs → Same H H' → Q (.ref p) H'
theorem ok_full {fC fW fA : Addr} {dC dW dA : FuncData} (F : FnP K "full" sFull f fd) (TM : TM P w K mg base C)
    (GC : FnOk P w K mg base CX0 3 fC dC ["marks"] (spNon fun H vs => ∃ a ms, vs = [.ref a] ∧ H a = some (.lst (ms.map V.str)) ∧ MarksOk ms)) (bC : Binds K dC ["marks"] []) (kC : PySem.W.keepIn K (.ref fC) = true) (gC : mg "check_marks" = some (.ref fC))
    (GW : FnOk P w K mg base CX0 2 fW dW ["width"] (spNon WidthArg)) (bW : Binds K dW ["width"] []) (kW : PySem.W.keepIn K (.ref fW) = true) (gW : mg "check_width" = some (.ref fW))
    (GA : FnOk P w K mg base CX0 1 fA dA ["marks", "width"] (spAllRows K)) (bA : Binds K dA ["marks", "width"] []) (kA : PySem.W.keepIn K (.ref fA) = true) (gA : mg "all_rows" = some (.ref fA)) :
    FnOk P w K mg base CX0 6 f fd ["marks", "width"] (spFull C) := by
  obtain ⟨fI, dI, GI, bI, mk⟩ := TM.ini
  have TT := TM.tc
  refine F.ok scFull (fun vs H Q E h => ?_) (fun cdv A outer s H vs Q E hr h => ?_)
  · obtain ⟨a, ms, d, rfl, _⟩ := h
    rfl
  · obtain ⟨a, ms, d, rfl, ha, ok, few, hd, k⟩ := h
    refine ⟨_, PSs.nox (pss_cons (ps_expr (pe_call GC (hr.mono (by decide)) rfl gC kC bC .nil pass0 (pa_cons (pv 0) pa_nil)))
      (pss_cons (ps_expr (pe_call GW (hr.mono (by decide)) rfl gW kW bW .nil pass0 (pa_cons (pv 1) pa_nil)))
      (pss_one (ps_ret (pe_make mk GI hr rfl TT.mgC bI .nil pass0 (pa_cons (pv 0) (pa_cons (pv 1) (pa_cons (pe_call GA (hr.mono (by decide)) rfl gA kA bA .nil pass0 (pa_cons (pv 0) (pa_cons (pv 1) pa_nil))) pa_nil)))))))), ?_⟩
    refine ⟨_, rfl, ⟨a, ms, rfl, ha, ok⟩, fun H1 s1 => ?_⟩
    refine ⟨_, rfl, ⟨d, rfl, hd⟩, fun H2 s2 => ?_⟩
    have s12 : Same H H2 := fun b o e => s2 _ _ (s1 _ _ e)
    refine ⟨_, rfl, _, rfl, _, rfl, _, rfl, a, ms, d + 1, rfl, s12 _ _ ha, few, by omega, by omega, fun L M H3 hL eM hM s3 => ?_⟩
    have s13 : Same H H3 := fun b o e => s3 _ _ (s12 _ _ e)
    have lM : M.length < 300 := by
      have := congrArg List.length eM
      rw [List.length_map, rowsN_len] at this
      have h1 : ms.length ^ (d + 1) ≤ 3 ^ (d + 1) := Nat.pow_le_pow_left few _
      have h2 : 3 ^ (d + 1) ≤ 3 ^ 4 := Nat.pow_le_pow_right (by decide) (by omega)
      rw [this]
      exact Nat.lt_of_le_of_lt (Nat.le_trans h1 h2) (by decide)
    have inN : ∀ e ∈ M, e.2.length = d + 1 ∧ ∀ z ∈ e.2, z ∈ ms := fun e he => (rowsN_mem ms (d + 1) e.2).mp (by rw [← eM]; exact List.mem_map.mpr ⟨e, he, rfl⟩)
    refine make_table (s13 _ _ ha) ok hd hL ⟨hM, fun e he => (inN e he).1, lM⟩ (fun e he => (inN e he).2) fun p H4 rs np mem T s4 => ?_
    refine k p H4 rs ?_ (fun r => ?_) T fun b o e => s4 _ _ (s13 _ _ e)
    · cases z : H p with
      | none => rfl
      | some o =>
        rw [s13 _ _ z] at np
        cases np
    · rw [mem, eM, rowsN_mem]
end
end Yt

set_option Elab.async false
set_option linter.all false
set_option maxRecDepth 100000
set_option maxHeartbeats 2000000
namespace Yt
open PySem PySem.Spec PyProof.Rows L2
abbrev sChosen : Stmt := top 28
abbrev sAreSpots : Stmt := top 29
theorem pexW {X : Cx} {e : Expr} {t t' : TE} (h : PE X e t) (k : ∀ σ H Q, t' σ H Q → t σ H Q) : PE X e t' := ⟨fun pins s σ H Q I q => h.run pins s σ H Q I (k σ H Q q)⟩
/-- what stands at these places -/
def at_ (r : List Str) (i : Nat) : Str := r.getD i ""
def spotted (ns : List Nat) (r : List Str) : List Str := ns.map (at_ r)
abbrev spotsV (ns : List Nat) : List V := ns.map fun i => V.int (i : Nat)
section
variable {P : Program} {w : World} {K : PySem.W.Frag} {mg : Str → Option Value} {base : Heap} {f : Addr} {fd : FuncData} {C : Addr}
theorem scAreSpots : FnScope ["width", "value", "spot"] ["width", "value"] (defScope sAreSpots) := ⟨rfl, rfl, rfl, by decide +kernel, rfl, by decide +kernel, by decide +kernel⟩
abbrev SpotsArg : Hp → List V → Prop := fun H vs => ∃ (d : Nat) (l : Addr) (ns : List Nat), vs = [.int ((d + 1 : Nat) : Int), .ref l] ∧ H l = some (.lst (spotsV ns)) ∧ 1 ≤ ns.length ∧ ns.length ≤ 4 ∧ ∀ i ∈ ns, i < d + 1
theorem ok_arespots {fN : Addr} {dN : FuncData} {t4 : Tok} (F : FnP K "_are_spots" sAreSpots f fd) (T : Nm mg) (T6 : Nm6 mg) (gM : mg "GREATEST_WIDTH" = some (.int 4 t4))
    (GN : FnOk P w K mg base CX0 1 fN dN ["value"] (spYes fun _ vs => ∃ n : Int, vs = [.int n] ∧ 0 ≤ n)) (bN : Binds K dN ["value"] []) (kN : PySem.W.keepIn K (.ref fN) = true) (gN : mg "is_count" = some (.ref fN)) :
    FnOk P w K mg base CX0 2 f fd ["width", "value"] (spYes SpotsArg) := by
  refine F.ok scAreSpots (fun vs H Q E h => ?_) (fun cdv A outer s H vs Q E hr h => ?_)
  · obtain ⟨⟨d, l, ns, rfl, _⟩, _⟩ := h
    rfl
  · obtain ⟨⟨d, l, ns, rfl, hl, n1, n4, lt⟩, k⟩ := h
    refine ⟨_, PSs.nox (pss_cons (ps_if (PW.pt (pw_or (pt_not (pt_val (pe_callB call_isi (by rfl) T6.isi (by decide +kernel) (pa_cons (pv 1) (pa_cons (pe_bltn (v := .ty "list") (u := .type "list") (by rfl) T6.list (by decide +kernel) rfl) pa_nil)))))
        (pw_or1 (pt_not (pt_chain op_le op_le pe_int (pe_callB call_len (by rfl) T.len PySem.boot_len (pa_cons (pv 1) pa_nil)) (pe_glob (v := .int 4) rfl gM ⟨_, rfl⟩)))))) (pss_one (ps_ret pe_bl)) pss_nil)
      (pss_one (ps_ret (pe_callB (cr_all rfl) (by rfl) T6.all (by decide +kernel) (pa_cons (pe_lc (own := [("spot", 2)]) (g := gName 2) (tt := tYes) rfl scAreSpots.nd (pi_list (pv 1)) (blkOk_by (own := [("spot", 2)]) (N := ["width", "value", "spot"]) (sc := defScope sAreSpots) (by decide +kernel))
        (fun _ _ _ _ _ => pg_name (i := 2) scAreSpots.nd rfl (Or.inl rfl)) (fun _ _ _ _ _ => pts_nil) (fun _ _ _ _ _ => pe_and (pe_call GN hr rfl gN kN bN .nil pass0 (pa_cons (pv 2) pa_nil)) (pe_one (pe_cmpR op_lt (pv 2) (pv 0) (nomark _))))) pa_nil))))), ?_⟩
    refine ⟨_, rfl, _, _, .type "list", _, true, rfl, .ty _, .base (.lst hl), kit_ty (by decide +kernel), _, rfl, ?_⟩
    refine iteF ?_
    refine ⟨_, rfl, _, (spotsV ns).length, rfl, Or.inl ⟨_, SqL.of hl, rfl⟩, _, _, rfl, rfl, true, by show V.bl (decide ((1 : Int) ≤ ((spotsV ns).length : Nat))) = _; rw [List.length_map, decide_eq_true (by omega)], ?_⟩
    refine iteT ?_
    refine ⟨_, _, rfl, rfl, true, by show V.bl (decide (((spotsV ns).length : Int) ≤ 4)) = _; rw [List.length_map, decide_eq_true (by omega)], ?_⟩
    refine iteF ?_
    refine ⟨_, rfl, l, rfl, ⟨_, SqL.of hl⟩, fun D hD => ?_⟩
    refine lc_list (K := K) (a := l) (xs := spotsV ns) (fun i Hx => Hx D = some (.lst ((List.replicate i true).map V.bl)) ∧ Same H Hx) ⟨upd_same, same_new hD⟩ (fun i Hx _ q => SqL.of (q.2 _ _ hl)) ?_ ?_
    · rintro i v Hx hv ⟨q1, q2⟩
      rw [List.getElem?_map] at hv
      obtain ⟨c, ec, rfl⟩ := Option.map_eq_some_iff.mp hv
      have hi : i < ns.length := (List.getElem?_eq_some_iff.mp ec).1
      have hc := lt c (List.mem_of_getElem? ec)
      refine ⟨rfl, ?_⟩
      refine ⟨_, rfl, ⟨_, rfl, by omega⟩, fun H3 s3 => ⟨true, rfl, ?_⟩⟩
      refine iteT ?_
      refine ⟨_, rfl, _, rfl, _, _, rfl, rfl, ?_⟩
      have e1 : V.bl (decide ((c : Int) < ((d + 1 : Nat) : Int))) = V.bl true := by rw [decide_eq_true (by omega)]
      show ∃ acc, _
      refine ⟨_, s3 _ _ q1, ?_, ?_, fun b o z => (upd_ne (ne_of_none z hD)).trans (s3 _ _ (q2 _ _ z))⟩
      · rw [List.length_map, List.length_replicate]
        exact len_ok (by omega)
      · rw [upd_same, List.replicate_succ', List.map_append]
        show some (HO.lst (_ ++ [V.bl (decide ((c : Int) < ((d + 1 : Nat) : Int)))])) = _
        rw [e1]
        rfl
    · rintro Hx ⟨q1, q2⟩
      refine ⟨D, List.replicate (spotsV ns).length true, rfl, SqL.of q1, ?_⟩
      rw [all_rep]
      exact k _ q2
theorem scChosen : FnScope ["table", "spots", "rows", "row", "spot"] ["table", "spots"] (defScope sChosen) := ⟨rfl, rfl, rfl, by decide +kernel, rfl, by decide +kernel, by decide +kernel⟩
def spChosen (C : Addr) : Sp := fun vs H Q _ => ∃ (p l : Addr) (ms : List Str) (d e : Nat) (rs : List (List Str)) (ns : List Nat), vs = [.ref p, .ref l] ∧ TableAt C H p ms d rs ∧ MarksOk ms ∧ ms.length ≤ 3 ∧ d ≤ 3 ∧ Over ms rs ∧ H l = some (.lst (spotsV ns)) ∧ ns.length = e + 1 ∧ e ≤ 3 ∧ (∀ i ∈ ns, i < d + 1) ∧
  ∀ (x : Addr) (H' : Hp) (ws : List (List Str)), H x = none → (∀ r, r ∈ ws ↔ r ∈ rs.map (spotted ns)) → TableAt C H' x ms e ws → Same H H' → Q (.ref x) H'
def tSpot : TE := fun σ H Q => ∃ (a0 : Option V) (l t : Addr) (ns : List Nat) (r : List Str) (u2 u4 : Option V), σ = [a0, some (.ref l), u2, some (.ref t), u4] ∧ H l = some (.lst (spotsV ns)) ∧ H t = some (.tup (r.map V.str)) ∧ (∀ i ∈ ns, i < r.length) ∧ ns.length ≤ 4 ∧
  ∀ (T : Addr) (H' : Hp), H' T = some (.tup ((spotted ns r).map V.str)) → Same H H' → Q (.ref T) H'
abbrev scRow : Scope := { kind := .function, names := [(".0", .local), ("row", .cell), ("tuple", .globalImplicit), ("spots", .free)], isGenerator := false, isCoroutine := false, more := [] }
theorem ok_chosen {fT fS : Addr} {dT dS : FuncData} (F : FnP K "chosen" sChosen f fd) (TM : TM P w K mg base C) (T : Nm mg) (T6 : Nm6 mg)
    (GT : FnOk P w K mg base CX0 1 fT dT ["table"] (spNon (TableArg C))) (bT : Binds K dT ["table"] []) (kT : PySem.W.keepIn K (.ref fT) = true) (gT : mg "check_table" = some (.ref fT))
    (GS : FnOk P w K mg base CX0 2 fS dS ["width", "value"] (spYes SpotsArg)) (bS : Binds K dS ["width", "value"] []) (kS : PySem.W.keepIn K (.ref fS) = true) (gS : mg "_are_spots" = some (.ref fS)) :
    FnOk P w K mg base CX0 6 f fd ["table", "spots"] (spChosen C) := by
  obtain ⟨fI, dI, GI, bI, mk⟩ := TM.ini
  obtain ⟨fA, dA, GA, bA, mA⟩ := TM.marks
  obtain ⟨fW, dW, GW, bW, mW⟩ := TM.width
  obtain ⟨fR, dR, GR, bR, mR⟩ := TM.rows
  have TT := TM.tc
  refine F.ok scChosen (fun vs H Q E h => ?_) (fun cdv A outer s H vs Q E hr h => ?_)
  · obtain ⟨p, l, ms, d, e, rs, ns, rfl, _⟩ := h
    rfl
  · obtain ⟨p, l, ms, d, e, rs, ns, rfl, T1, ok, few, d3, o1, hl, ln, e3, lt, k⟩ := h
    refine ⟨_, PSs.nox (pss_cons (ps_expr (pe_call GT (hr.mono (by decide)) rfl gT kT bT .nil pass0 (pa_cons (pv 0) pa_nil)))
      (pss_cons (ps_if (pt_not (pt_val (pe_call GS (hr.mono (by decide)) rfl gS kS bS .nil pass0 (pa_cons (pe_meth0 (pv 0) TT.cl mW GW (hr.mono (by decide)) bW .nil pass0) (pa_cons (pv 1) pa_nil))))) (pss_one ps_never) pss_nil)
      (pss_cons (ps_setLc (i := 2) (own := [("row", 3)]) (g := gName 3) (tt := tYes) (te := tSpot) rfl scChosen.nd rfl rfl (sw_true rfl rfl rfl (by decide +kernel)) (pi_list (pe_meth0 (pv 0) TT.cl mR GR (hr.mono (by decide)) bR .nil pass0)) (blkOk_by (own := [("row", 3)]) (N := ["table", "spots", "rows", "row", "spot"]) (sc := defScope sChosen) (by decide +kernel))
          (fun _ _ _ _ _ => pg_name (i := 3) scChosen.nd rfl (Or.inr rfl)) (fun _ _ _ _ _ => pts_nil)
          (fun _ _ _ _ _ => pexW (pe_callTy call_tuple_of (by rfl) T6.tuple (by decide +kernel) (pa_cons
              (pe_lc (own := [("spot", 4)]) (g := gName 4) (tt := tYes) (te := tOp (rIxT K) (tVar 3) (tVar 4)) rfl scChosen.nd (pi_list (pv 1)) (blkOk_by (own := [("spot", 4)]) (N := ["table", "spots", "rows", "row", "spot"]) (sc := relS scRow (defScope sChosen)) (by decide +kernel))
                (fun _ _ _ _ _ => pg_name (i := 4) scChosen.nd rfl (Or.inl rfl)) (fun _ _ _ _ _ => pts_nil) (fun _ _ _ _ _ => pe_ix ix_tup (pv 3) (pv 4) (fun _ _ => rfl))) pa_nil)) fun σ H Q hq => ?_))
      (pss_one (ps_ret (pe_make mk GI hr rfl TT.mgC bI .nil pass0 (pa_cons (pe_meth0 (pv 0) TT.cl mA GA (hr.mono (by decide)) bA .nil pass0) (pa_cons (pe_callB call_len (by rfl) T.len PySem.boot_len (pa_cons (pv 1) pa_nil)) (pa_cons (pv 2) pa_nil))))))))), ?_⟩
    · obtain ⟨a0, l, t, ns, r, u2, u4, rfl, hl, ht, lt, n4, k⟩ := hq
      refine ⟨_, rfl, l, rfl, ⟨_, SqL.of hl⟩, fun D hD => ?_⟩
      refine lc_list (K := K) (a := l) (xs := spotsV ns) (fun i Hx => Hx D = some (.lst (((ns.take i).map (at_ r)).map V.str)) ∧ Same H Hx) ⟨upd_same, same_new hD⟩ (fun i Hx _ q => SqL.of (q.2 _ _ hl)) ?_ ?_
      · rintro i v Hx hv ⟨q1, q2⟩
        rw [List.getElem?_map] at hv
        obtain ⟨c, ec, rfl⟩ := Option.map_eq_some_iff.mp hv
        have hc := lt c (List.mem_of_getElem? ec)
        have hi : i < ns.length := (List.getElem?_eq_some_iff.mp ec).1
        have er : r[c]? = some (at_ r c) := by
          unfold at_
          rw [List.getD_eq_getElem?_getD, List.getElem?_eq_getElem hc]
          rfl
        refine ⟨rfl, ?_⟩
        refine ⟨_, rfl, _, rfl, t, r.map V.str, _, V.str (at_ r c), rfl, rfl, SqT.of (q2 _ _ ht), atI_nat (by rw [List.getElem?_map, er] <;> rfl), _, q1, ?_, ?_, fun b o z => (upd_ne (ne_of_none z hD)).trans (q2 _ _ z)⟩
        · rw [List.length_map, List.length_map, List.length_take]
          exact len_ok (by omega)
        · rw [upd_same, List.take_add_one, ec, List.map_append, List.map_append]
          rfl
      · rintro Hx ⟨q1, q2⟩
        have ll : (spotsV ns).length = ns.length := List.length_map _
        rw [ll, List.take_length] at q1
        exact ⟨D, _, rfl, .inl ⟨SqL.of q1, fun T nT => k T _ upd_same fun b o z => same_new nT _ _ (q2 _ _ z)⟩⟩
    · refine ⟨_, rfl, ⟨p, ms, d, rs, rfl, T1⟩, fun H1 s1 => ?_⟩
      obtain ⟨dx, A1, R, M, h1, _⟩ := id (T1.to s1)
      refine ⟨_, rfl, p, dx, _, rfl, h1, no_attr (by decide +kernel), p, ms, d, rs, rfl, T1.to s1, _, rfl, ⟨d, l, ns, rfl, s1 _ _ hl, by omega, by omega, lt⟩, fun H2 s2 => ⟨true, rfl, ?_⟩⟩
      refine iteF ?_
      have s12 : Same H H2 := fun b o z => s2 _ _ (s1 _ _ z)
      refine ⟨_, rfl, p, dx, _, rfl, s2 _ _ h1, no_attr (by decide +kernel), p, ms, d, rs, rfl, T1.to s12, fun L3 M3 H3 nL3 hL3 R3 e33 s3 => ?_⟩
      have s13 : Same H H3 := fun b o z => s3 _ _ (s12 _ _ z)
      have lr : rs.length ≤ 81 := Nat.le_trans (table_few T1 o1 few) (Nat.le_trans (Nat.pow_le_pow_right (by decide) (show d + 1 ≤ 4 by omega)) (by decide))
      have lens : ∀ u ∈ rs, u.length = d + 1 := fun u hu => by
        rw [← e33] at hu
        obtain ⟨z, hz, rfl⟩ := List.mem_map.mp hu
        exact R3.len z hz
      refine ⟨L3, rfl, ⟨_, SqL.of hL3⟩, fun D hD => ?_⟩
      refine lc_list (K := K) (a := L3) (xs := M3.map fun e => V.ref e.1) (fun j Hx => Built D H3 ((rs.take j).map (spotted ns)) Hx) (Built.first hD) (fun j Hx _ ⟨_, _, _, _, z⟩ => SqL.of (z _ _ hL3)) ?_ ?_
      · rintro j x Hx ex hB
        rw [List.getElem?_map] at ex
        obtain ⟨u, hu, rfl⟩ := Option.map_eq_some_iff.mp ex
        have um := List.mem_of_getElem? hu
        have er : rs[j]? = some u.2 := by rw [← e33, List.getElem?_map, hu] <;> rfl
        have ur := List.mem_of_getElem? er
        obtain ⟨_, _, _, _, sx⟩ := id hB
        refine ⟨rfl, ?_⟩
        refine ⟨_, l, u.1, ns, u.2, _, _, rfl, sx _ _ (s13 _ _ hl), sx _ _ (s3 _ _ (R3.at_ u um)), fun i hi => by rw [lens u.2 ur]; exact lt i hi, by omega, fun T4 H4 hT4 s4 => ?_⟩
        obtain ⟨acc, b1, b2, b3⟩ := hB.more hD s4 hT4
        refine ⟨acc, b1, ?_, ?_⟩
        · rw [b2, List.length_map, List.length_take, sizeLine_eq]
          omega
        · rw [List.take_add_one, er, List.map_append]
          exact b3
      · rintro Hx ⟨W, q1, q2, q3, q4⟩
        have ll : (M3.map fun e => V.ref e.1).length = rs.length := by rw [← e33, List.length_map, List.length_map]
        rw [ll, List.take_length] at q2
        have s1x : Same H Hx := fun b o z => q4 _ _ (s13 _ _ z)
        refine ⟨_, rfl, p, dx, _, rfl, q4 _ _ (s3 _ _ (s2 _ _ h1)), no_attr (by decide +kernel), p, ms, d, rs, rfl, T1.to s1x, fun A5 H5 nA5 hA5 s5 => ?_⟩
        refine ⟨_, rfl, _, (spotsV ns).length, rfl, Or.inl ⟨_, SqL.of (s5 _ _ (s1x _ _ hl)), rfl⟩, _, rfl, ?_⟩
        have wid : ((spotsV ns).length : Int) = ((e + 1 : Nat) : Int) := by rw [List.length_map, ln]
        have mem : ∀ r : Addr × List Str, r ∈ W → ∃ u ∈ rs, spotted ns u = r.2 := fun r hr => List.mem_map.mp (by rw [← q2]; exact List.mem_map.mpr ⟨r, hr, rfl⟩)
        intro x dx' nx ndx nex
        have mt := make_table (C := C) (E := E0) (Q := Q) (d := e) hA5 ok e3 (s5 _ _ q1) ⟨fun r hr => s5 _ _ (q3 r hr).2, ?_, ?_⟩ ?_ ?_ x dx' nx ndx nex
        · rw [← wid] at mt
          exact mt
        · intro r hr
          obtain ⟨u, hu, er⟩ := mem r hr
          rw [← er]
          unfold spotted
          rw [List.length_map, ln]
        · have := congrArg List.length q2
          rw [List.length_map, List.length_map] at this
          omega
        · intro r hr z hz
          obtain ⟨u, hu, er⟩ := mem r hr
          rw [← er] at hz
          obtain ⟨i, hi, rfl⟩ := List.mem_map.mp hz
          refine o1 u hu _ ?_
          have hi' : i < u.length := by rw [lens u hu]; exact lt i hi
          unfold at_
          rw [List.getD_eq_getElem?_getD, List.getElem?_eq_getElem hi']
          exact List.getElem_mem hi'
        · intro x H7 ws nx mw T7 s7
          refine k x H7 ws ?_ (fun r => by rw [mw, q2]) T7 fun b o z => s7 _ _ (s5 _ _ (s1x _ _ z))
          cases z : H x with
          | none => rfl
          | some o =>
            rw [s5 _ _ (s1x _ _ z)] at nx
            cases nx
end
end Yt

set_option Elab.async false
set_option linter.all false
set_option maxRecDepth 100000
set_option maxHeartbeats 2000000
namespace Yt
open PySem PySem.Spec PyProof.Rows L2
abbrev sTwos : Stmt := top 22
abbrev sPairsOf : Stmt := top 30
/-! ### the twos of places -/
abbrev KV2 (i j : Nat) : List Key := [Sum.inl (i : Int), Sum.inl (j : Int)]
def twosN (n : Nat) : List (Nat × Nat) := (List.range n).flatMap fun i => (List.range (n - i)).map fun c => (i, i + c)
theorem twosN_mem {n : Nat} {p : Nat × Nat} : p ∈ twosN n ↔ p.1 ≤ p.2 ∧ p.2 < n := by
  unfold twosN
  rw [List.mem_flatMap]
  constructor
  · rintro ⟨i, hi, h⟩
    obtain ⟨c, hc, rfl⟩ := List.mem_map.mp h
    have := List.mem_range.mp hi
    have := List.mem_range.mp hc
    exact ⟨by show i ≤ i + c; omega, by show i + c < n; omega⟩
  · rintro ⟨h1, h2⟩
    obtain ⟨i, j⟩ := p
    have h1 : i ≤ j := h1
    have h2 : j < n := h2
    refine ⟨i, List.mem_range.mpr (by omega), List.mem_map.mpr ⟨j - i, List.mem_range.mpr (by omega), ?_⟩⟩
    congr 1
    omega
/-- a list of pairs of numbers, as it is made at D -/
def Built2 (D : Addr) (H0 : Hp) (ps : List (Nat × Nat)) (Hx : Hp) : Prop := ∃ M : List (Addr × Nat × Nat), Hx D = some (.lst (M.map fun e => V.ref e.1)) ∧ M.map (·.2) = ps ∧ (∀ e ∈ M, e.1 ≠ D ∧ Hx e.1 = some (.tup [.int (e.2.1 : Nat), .int (e.2.2 : Nat)])) ∧ Same H0 Hx
theorem Built2.first {D : Addr} {H0 : Hp} (hD : H0 D = none) : Built2 D H0 [] (upd H0 D (.lst [])) := ⟨[], upd_same, rfl, (fun e he => nomatch he), same_new hD⟩
theorem Built2.more {D : Addr} {H0 Hx H' : Hp} {ps : List (Nat × Nat)} (B : Built2 D H0 ps Hx) (hD : H0 D = none) {t : Addr} {r : Nat × Nat} (s : Same Hx H') (ht : H' t = some (.tup [.int (r.1 : Nat), .int (r.2 : Nat)])) :
    ∃ acc, H' D = some (.lst acc) ∧ acc.length = ps.length ∧ Built2 D H0 (ps ++ [r]) (upd H' D (.lst (acc ++ [.ref t]))) := by
  obtain ⟨M, h1, h2, h3, h4⟩ := B
  have tD : t ≠ D := fun z => by
    rw [z, s _ _ h1] at ht
    cases ht
  refine ⟨_, s _ _ h1, by rw [List.length_map, ← h2, List.length_map], M ++ [(t, r)], by rw [upd_same, List.map_append] <;> rfl, by rw [List.map_append, h2] <;> rfl, fun e he => ?_, fun b o e => (upd_ne (ne_of_none e hD)).trans (s _ _ (h4 _ _ e))⟩
  rcases List.mem_append.mp he with he | he
  · exact ⟨(h3 e he).1, (upd_ne (h3 e he).1).trans (s _ _ (h3 e he).2)⟩
  · rw [List.mem_singleton.mp he]
    exact ⟨tD, (upd_ne tD).trans ht⟩
section
variable {P : Program} {w : World} {K : PySem.W.Frag} {mg : Str → Option Value} {base : Heap} {f : Addr} {fd : FuncData} {C : Addr}
theorem scTwos : FnScope ["width", "i", "j"] ["width"] (defScope sTwos) := ⟨rfl, rfl, rfl, by decide +kernel, rfl, by decide +kernel, by decide +kernel⟩
def spTwos : Sp := fun vs H Q _ => ∃ d : Nat, vs = [.int ((d + 1 : Nat) : Int)] ∧ d ≤ 3 ∧ ∀ (L : Addr) (M : List (Addr × Nat × Nat)) (H' : Hp), H L = none → H' L = some (.lst (M.map fun e => V.ref e.1)) → M.map (·.2) = twosN (d + 1) → (∀ e ∈ M, H' e.1 = some (.tup [.int (e.2.1 : Nat), .int (e.2.2 : Nat)])) → Same H H' → Q (.ref L) H'
theorem ok_twos (F : FnP K "twos_of" sTwos f fd) (T : Nm mg) : FnOk P w K mg base CX0 1 f fd ["width"] spTwos := by
  refine F.ok scTwos (fun vs H Q E h => ?_) (fun cdv A outer s H vs Q E hr h => ?_)
  · obtain ⟨d, rfl, _⟩ := h
    rfl
  · obtain ⟨d, rfl, d3, k⟩ := h
    refine ⟨_, PSs.nox (pss_one (ps_ret (pe_lc2 (own := [("i", 1), ("j", 2)]) (vs1 := [2]) (g := gName 1) (tt := tYes) (g1 := gName 2) (tt1 := tYes) (wi1 := iRng2 (tCons (tVar 1) (tCons (tVar 0) tNil))) (te := tTup (tCons (tVar 1) (tCons (tVar 2) tNil))) rfl scTwos.nd (pi_range1 rfl T.range (pa_cons (pv 0) pa_nil)) (blkOk_by (own := [("i", 1), ("j", 2)]) (N := ["width", "i", "j"]) (sc := defScope sTwos) (by decide +kernel)) (by decide)
      (fun _ _ _ _ _ => pg_name (i := 1) scTwos.nd rfl (Or.inl rfl)) (fun _ _ _ _ _ => pts_nil)
      (fun _ _ _ _ _ => pi_range2 (by rfl) T.range (pa_cons (pv 1) (pa_cons (pv 0) pa_nil))) (fun _ _ _ _ _ => pg_name (i := 2) scTwos.nd rfl (Or.inl rfl)) (fun _ _ _ _ _ => pts_nil)
      (fun _ _ _ _ _ => pe_tup (pa_cons (pv 1) (pa_cons (pv 2) pa_nil)))))), ?_⟩
    refine ⟨_, rfl, _, rfl, by omega, by omega, fun D hD => ?_⟩
    have en : ((d + 1 : Nat) : Int).toNat = d + 1 := by omega
    rw [en]
    have len2 : ∀ (l : List Nat) (n : Nat), (l.flatMap fun i => (List.range (n - i)).map fun c => (i, i + c)).length ≤ l.length * n := fun l n => by
      induction l with
      | nil => simp
      | cons x l ih =>
        rw [List.flatMap_cons, List.length_append, List.length_map, List.length_range, List.length_cons, Nat.add_mul]
        omega
    refine lc2_out (walk_range (lo := 0) (n := d + 1)) (fun j Hx => Built2 D H (((List.range (d + 1)).take j).flatMap fun i => (List.range (d + 1 - i)).map fun c => (i, i + c)) Hx) (Built2.first hD) (fun _ _ _ _ => trivial) ?_ ?_
    · rintro i x Hx H' hi hB ⟨rfl, rfl⟩
      have ei : (List.range (d + 1))[i]? = some i := by rw [List.getElem?_range hi]
      refine ⟨rfl, ?_⟩
      refine ⟨_, rfl, _, rfl, _, _, rfl, ⟨by omega, by omega, by omega, by omega⟩, ?_⟩
      have en2 : (((d + 1 : Nat) : Int) - (0 + (i : Int))).toNat = d + 1 - i := by omega
      rw [en2]
      refine lc2_in (walk_range (lo := 0 + (i : Int)) (n := d + 1 - i)) (fun c Hy => Built2 D H ((((List.range (d + 1)).take i).flatMap fun i => (List.range (d + 1 - i)).map fun c => (i, i + c)) ++ ((List.range (d + 1 - i)).take c).map fun c => (i, i + c)) Hy) ?_ (fun _ _ _ _ => trivial) ?_ ?_
      · show Built2 D H (_ ++ []) _
        rw [List.append_nil]
        exact hB
      · rintro c y Hy H' hc hB2 ⟨rfl, rfl⟩
        have ec : (List.range (d + 1 - i))[c]? = some c := by rw [List.getElem?_range hc]
        refine ⟨rfl, ?_⟩
        refine ⟨_, rfl, _, rfl, (by show 2 ≤ sizeLine; decide), fun t nt => ?_⟩
        have e1 : (0 + (i : Int)) = ((i : Nat) : Int) := by omega
        have e2 : (0 + (i : Int) + (c : Int)) = ((i + c : Nat) : Int) := by omega
        have small : ((((List.range (d + 1)).take i).flatMap fun i => (List.range (d + 1 - i)).map fun c => (i, i + c)) ++ ((List.range (d + 1 - i)).take c).map fun c => (i, i + c)).length < 300 := by
          rw [List.length_append, List.length_map, List.length_take]
          have h1 := len2 ((List.range (d + 1)).take i) (d + 1)
          have h2 : ((List.range (d + 1)).take i).length * (d + 1) ≤ 4 * 4 := Nat.mul_le_mul (by rw [List.length_take, List.length_range]; omega) (by omega)
          omega
        obtain ⟨acc, b1, b2, b3⟩ := hB2.more hD (H' := upd H' t (.tup [V.int (0 + (i : Int)), V.int (0 + (i : Int) + (c : Int))])) (same_new nt) (t := t) (r := (i, i + c)) (by
          show _ = some (HO.tup [V.int ((i : Nat) : Int), V.int ((i + c : Nat) : Int)])
          rw [upd_same, e2, e1])
        refine ⟨acc, b1, by rw [b2, sizeLine_eq]; omega, ?_⟩
        rw [List.take_add_one, ec, List.map_append, ← List.append_assoc]
        exact b3
      · intro Hy hB2
        have l2 : (List.range (d + 1 - i)).take (d + 1 - i) = List.range (d + 1 - i) := List.take_of_length_le (by rw [List.length_range]; exact Nat.le_refl _)
        rw [l2] at hB2
        rw [take_flat _ _ ei]
        exact hB2
    · rintro Hx ⟨M, q1, q2, q3, q4⟩
      have ll : (List.range (d + 1)).take (d + 1) = List.range (d + 1) := List.take_of_length_le (by rw [List.length_range]; exact Nat.le_refl _)
      rw [ll] at q2
      exact k D M Hx hD q1 q2 (fun e he => (q3 e he).2) q4
end
end Yt

set_option Elab.async false
set_option linter.all false
set_option maxRecDepth 100000
set_option maxHeartbeats 2000000
namespace Yt
open PySem PySem.Spec PyProof.Rows L2
theorem twosN_nodup {d : Nat} (h : d ≤ 3) : (twosN (d + 1)).Nodup := by
  match d, h with
  | 0, _ => decide
  | 1, _ => decide
  | 2, _ => decide
  | 3, _ => decide
theorem KV2_inj {p q : Nat × Nat} (h : KV2 p.1 p.2 = KV2 q.1 q.2) : p = q := by
  obtain ⟨a, b⟩ := p
  obtain ⟨c, e⟩ := q
  simp only [KV2, List.cons.injEq, Sum.inl.injEq, and_true] at h
  congr 1 <;> omega
theorem map_perm {α β : Type} {f : α → β} {xs zs : List β} (hp : xs.Perm zs) : ∀ (ts : List α), zs = ts.map f → ∃ ts' : List α, xs = ts'.map f ∧ ts'.Perm ts := by
  induction hp with
  | nil =>
    intro ts e
    cases ts with
    | nil => exact ⟨[], rfl, List.Perm.refl _⟩
    | cons t ts => cases e
  | cons x _ ih =>
    intro ts e
    cases ts with
    | nil => cases e
    | cons t ts =>
      rw [List.map_cons, List.cons.injEq] at e
      obtain ⟨ts', e1, p1⟩ := ih _ e.2
      exact ⟨t :: ts', by rw [e.1, e1] <;> rfl, .cons _ p1⟩
  | swap x y l =>
    intro ts e
    match ts with
    | [] => cases e
    | [_] => cases e
    | t :: u :: ts =>
      rw [List.map_cons, List.map_cons, List.cons.injEq, List.cons.injEq] at e
      exact ⟨u :: t :: ts, by rw [e.1, e.2.1, e.2.2] <;> rfl, .swap _ _ _⟩
  | trans _ _ ih1 ih2 =>
    intro ts e
    obtain ⟨ts2, e2, p2⟩ := ih2 _ e
    obtain ⟨ts1, e1, p1⟩ := ih1 _ e2
    exact ⟨ts1, e1, p1.trans p2⟩
theorem none_back {H H' : Hp} {a : Addr} (s : Same H H') (n : H' a = none) : H a = none := by
  cases z : H a with
  | none => rfl
  | some o =>
    rw [s _ _ z] at n
    cases n
/-- the pair of what a row has at two places -/
def two (i j : Nat) (r : List Str) : List Str := [at_ r i, at_ r j]
def tPair : TE := fun σ H Q => ∃ (u0 : Option V) (l : Addr) (i j d : Nat) (M : List (Addr × List Str)) (u4 : Option V), σ = [u0, some (.ref l), some (.int (i : Nat)), some (.int (j : Nat)), u4] ∧ H l = some (.lst (M.map fun e => V.ref e.1)) ∧ RowsIn H d M ∧ i < d + 1 ∧ j < d + 1 ∧ M.length ≤ 100 ∧
  ∀ (L : Addr) (N : List (Addr × List Str)) (H' : Hp), H L = none → H' L = some (.lst (N.map fun e => V.ref e.1)) → RowsIn H' 1 N → (∀ x, x ∈ N.map (·.2) ↔ x ∈ (M.map (·.2)).map (two i j)) → Up (N.map (·.2)) → Same H H' → Q (.ref L) H'
abbrev scIJ : Scope := { kind := .function, names := [(".0", .local), ("i", .cell), ("j", .cell), ("sorted", .globalImplicit), ("rows", .free)], isGenerator := false, isCoroutine := false, more := [] }
/-- the pairs of rows, by places -/
def PairsAt (H : Hp) (D : Addr) (d : Nat) (rs : List (List Str)) : Prop := ∃ kvs : List (List Key × V), H D = some (.dT kvs) ∧ kvs.map (·.1) = (twosN (d + 1)).map (fun p => KV2 p.1 p.2) ∧
  ∀ e ∈ kvs, ∃ (i j : Nat) (L : Addr) (N : List (Addr × List Str)), e = (KV2 i j, .ref L) ∧ H L = some (.lst (N.map fun e => V.ref e.1)) ∧ RowsIn H 1 N ∧ (∀ x, x ∈ N.map (·.2) ↔ x ∈ rs.map (two i j)) ∧ Up (N.map (·.2))
section
variable {P : Program} {w : World} {K : PySem.W.Frag} {mg : Str → Option Value} {base : Heap} {f : Addr} {fd : FuncData} {C : Addr}
theorem scPairsOf : FnScope ["table", "rows", "i", "j", "row"] ["table"] (defScope sPairsOf) := ⟨rfl, rfl, rfl, by decide +kernel, rfl, by decide +kernel, by decide +kernel⟩
def spPairsOf (C : Addr) : Sp := fun vs H Q _ => ∃ (p : Addr) (ms : List Str) (d : Nat) (rs : List (List Str)), vs = [.ref p] ∧ TableAt C H p ms d rs ∧ d ≤ 3 ∧ rs.length ≤ 81 ∧
  ∀ (D : Addr) (kvs : List (List Key × V)) (H' : Hp), H D = none → PairsAt H' D d rs → H' D = some (.dT kvs) → (∀ e ∈ kvs, ∀ L : Addr, e.2 = .ref L → H L = none) → Same H H' → Q (.ref D) H'
theorem ok_pairsof {fT fW' : Addr} {dT dW' : FuncData} (F : FnP K "pairs_of" sPairsOf f fd) (TM : TM P w K mg base C) (hso : mg "sorted" = none)
    (GT : FnOk P w K mg base CX0 1 fT dT ["table"] (spNon (TableArg C))) (bT : Binds K dT ["table"] []) (kT : PySem.W.keepIn K (.ref fT) = true) (gT : mg "check_table" = some (.ref fT))
    (G2 : FnOk P w K mg base CX0 1 fW' dW' ["width"] spTwos) (b2 : Binds K dW' ["width"] []) (k2 : PySem.W.keepIn K (.ref fW') = true) (g2 : mg "twos_of" = some (.ref fW')) :
    FnOk P w K mg base CX0 2 f fd ["table"] (spPairsOf C) := by
  obtain ⟨fW, dW, GW, bW, mW⟩ := TM.width
  obtain ⟨fR, dR, GR, bR, mR⟩ := TM.rows
  have TT := TM.tc
  refine F.ok scPairsOf (fun vs H Q E h => ?_) (fun cdv A outer s H vs Q E hr h => ?_)
  · obtain ⟨p, ms, d, rs, rfl, _⟩ := h
    rfl
  · obtain ⟨p, ms, d, rs, rfl, T1, d3, few, k⟩ := h
    have hu := hu_of hr
    have hu4 := units4 hr
    refine ⟨_, PSs.nox (pss_cons (ps_expr (pe_call GT (hr.mono (by decide)) rfl gT kT bT .nil pass0 (pa_cons (pv 0) pa_nil)))
      (pss_cons (ps_set (i := 1) scPairsOf.nd rfl (Or.inr rfl) (pe_meth0 (pv 0) TT.cl mR GR (hr.mono (by decide)) bR .nil pass0))
      (pss_one (ps_ret (pe_dcT (own := [("i", 2), ("j", 3)]) (g := gTup K 2 (gCons (gName 2) (gCons (gName 3) gNil))) (tt := tYes) (tk := tTup (tCons (tVar 2) (tCons (tVar 3) tNil))) (tv := tPair) rfl scPairsOf.nd (Nat.lt_of_succ_lt hu) (pi_list (pe_call G2 (hr.mono (by decide)) rfl g2 k2 b2 .nil pass0 (pa_cons (pe_meth0 (pv 0) TT.cl mW GW (hr.mono (by decide)) bW .nil pass0) pa_nil))) (blkOk_by (own := [("i", 2), ("j", 3)]) (N := ["table", "rows", "i", "j", "row"]) (sc := defScope sPairsOf) (by decide +kernel))
        (fun _ _ _ _ _ => pg_tup rfl (pgs_cons (pg_name (i := 2) scPairsOf.nd rfl (Or.inr rfl)) (pgs_cons (pg_name (i := 3) scPairsOf.nd rfl (Or.inr rfl)) pgs_nil))) (fun _ _ _ _ _ => pts_nil) (fun _ _ _ _ _ => pe_tup (pa_cons (pv 2) (pa_cons (pv 3) pa_nil)))
        (fun _ _ _ _ _ => pexW (pe_callB (cr_sortSet rfl hu4) (by rfl) hso (by decide +kernel) (pa_cons
          (pe_sC (new := fun D => SetTO' P w D []) (add := addT P w) (own := [("row", 4)]) (g := gName 4) (tt := tYes) (te := tTup (tCons (tOp (rIxT K) (tVar 4) (tVar 2)) (tCons (tOp (rIxT K) (tVar 4) (tVar 3)) tNil))) (fun h G => setT_fresh h G) addT_ok hu rfl scPairsOf.nd (pi_list (pv 1)) (blkOk_by (own := [("row", 4)]) (N := ["table", "rows", "i", "j", "row"]) (sc := relS scIJ (defScope sPairsOf)) (by decide +kernel))
            (fun _ _ _ _ _ => pg_name (i := 4) scPairsOf.nd rfl (Or.inl rfl)) (fun _ _ _ _ _ => pts_nil) (fun _ _ _ _ _ => pe_tup (pa_cons (pe_ix ix_tup (pv 4) (pv 2) (fun _ _ => rfl)) (pa_cons (pe_ix ix_tup (pv 4) (pv 3) (fun _ _ => rfl)) pa_nil)))) pa_nil)) fun σ H Q hq => ?_)))))), ?_⟩
    · obtain ⟨u0, l, i0, j0, d, M, u4, rfl, hl, hR, id, jd, m100, k⟩ := hq
      refine ⟨_, rfl, l, rfl, ⟨_, SqL.of hl⟩, fun D hD => ?_⟩
      have ml : (M.map fun e => V.ref e.1).length = (M.map (·.2)).length := by rw [List.length_map, List.length_map]
      have ml2 : (M.map (·.2)).length = M.length := List.length_map _
      refine sC_it (new := fun D => SetTO' P w D []) (add := addT P w) (walk_list (K := K) (a := l) (xs := M.map fun e => V.ref e.1)) (fun i Hx => ∃ N : List (Addr × List Str), Hx D = some (SetTO' P w D (keyed N)) ∧ (∀ e ∈ N, e.1 ≠ D ∧ Hx e.1 = some (.tup (e.2.map V.str))) ∧ (∀ e ∈ N, e.2.length = 2) ∧ (∀ x, x ∈ N.map (·.2) ↔ x ∈ ((M.map (·.2)).take i).map (two i0 j0)) ∧ N.length ≤ i ∧ Same H Hx)
        ⟨[], upd_same, (fun e he => nomatch he), (fun e he => nomatch he), (fun x => by simp), Nat.le_refl _, same_new hD⟩ (fun i Hx _ ⟨_, _, _, _, _, _, z⟩ => SqL.of (z _ _ hl)) ?_ ?_
      · rintro i x Hx H' hi ⟨N, q1, q2, q3, q4, q5, q6⟩ ⟨rfl, ex⟩
        rw [List.getElem?_map] at ex
        obtain ⟨e, he, rfl⟩ := Option.map_eq_some_iff.mp ex
        have em := List.mem_of_getElem? he
        have er : (M.map (·.2))[i]? = some e.2 := by rw [List.getElem?_map, he] <;> rfl
        have le := hR.len e em
        have g1 : e.2[i0]? = some (at_ e.2 i0) := by
          unfold at_
          rw [List.getD_eq_getElem?_getD, List.getElem?_eq_getElem (by omega)]
          rfl
        have g2 : e.2[j0]? = some (at_ e.2 j0) := by
          unfold at_
          rw [List.getD_eq_getElem?_getD, List.getElem?_eq_getElem (by omega)]
          rfl
        have ht := q6 _ _ (hR.at_ e em)
        have i100 : i < 100 := by
          rw [ml, ml2] at hi
          omega
        have et : ((M.map (·.2)).take (i + 1)).map (two i0 j0) = ((M.map (·.2)).take i).map (two i0 j0) ++ [two i0 j0 e.2] := by
          rw [List.take_add_one, er, List.map_append]
          rfl
        refine ⟨rfl, ?_⟩
        refine ⟨_, rfl, _, rfl, e.1, e.2.map V.str, _, V.str (at_ e.2 i0), rfl, rfl, SqT.of ht, atI_nat (by rw [List.getElem?_map, g1] <;> rfl), _, rfl, _, rfl, e.1, e.2.map V.str, _, V.str (at_ e.2 j0), rfl, rfl, SqT.of ht, atI_nat (by rw [List.getElem?_map, g2] <;> rfl), (by show 2 ≤ sizeLine; decide), fun t nt => ?_⟩
        have st := same_new (o := .tup [V.str (at_ e.2 i0), V.str (at_ e.2 j0)]) nt
        have tD : t ≠ D := fun z => by
          rw [z, q1] at nt
          cases nt
        refine ⟨t, kR (two i0 j0 e.2), keyed N, rfl, upd_same, st _ _ q1, fun v hv => ?_, ?_, fun L' c1 c2 => ?_⟩
        · obtain ⟨u, hu, rfl⟩ := List.mem_map.mp hv
          show _ = some (HO.tup ((kR u.2).map kV))
          rw [kR_V]
          exact st _ _ (q2 u hu).2
        · rw [List.length_map]
          omega
        · by_cases hin : kR (two i0 j0 e.2) ∈ (keyed N).map (·.2)
          · rw [c1 hin]
            obtain ⟨v, hv, ev⟩ := List.mem_map.mp hin
            obtain ⟨u, hu, rfl⟩ := List.mem_map.mp hv
            have ev : u.2 = two i0 j0 e.2 := kR_inj ev
            refine ⟨N, upd_same, fun v hv => ⟨(q2 v hv).1, (upd_ne (q2 v hv).1).trans (st _ _ (q2 v hv).2)⟩, q3, fun x => ?_, by omega, fun b o z => (upd_ne (ne_of_none z hD)).trans (st _ _ (q6 _ _ z))⟩
            rw [et, List.mem_append, ← q4]
            refine ⟨.inl, fun h => h.elim (fun z => z) fun h => ?_⟩
            rw [List.mem_singleton.mp h, ← ev]
            exact List.mem_map.mpr ⟨u, hu, rfl⟩
          · obtain ⟨N', rfl, pm⟩ := map_perm (f := fun e : Addr × List Str => (e.1, kR e.2)) (c2 hin) ((t, two i0 j0 e.2) :: N) rfl
            refine ⟨N', upd_same, fun v hv => ?_, fun v hv => ?_, fun x => ?_, by rw [pm.length_eq, List.length_cons]; omega, fun b o z => (upd_ne (ne_of_none z hD)).trans (st _ _ (q6 _ _ z))⟩
            · rcases List.mem_cons.mp (pm.mem_iff.mp hv) with rfl | hv
              · exact ⟨tD, (upd_ne tD).trans upd_same⟩
              · exact ⟨(q2 v hv).1, (upd_ne (q2 v hv).1).trans (st _ _ (q2 v hv).2)⟩
            · rcases List.mem_cons.mp (pm.mem_iff.mp hv) with rfl | hv
              · rfl
              · exact q3 v hv
            · rw [(pm.map (·.2)).mem_iff, et, List.mem_append, ← q4, List.map_cons, List.mem_cons, List.mem_singleton]
              exact ⟨fun h => h.elim .inr .inl, fun h => h.elim .inr .inl⟩
      · rintro Hx ⟨N, q1, q2, q3, q4, q5, q6⟩
        rw [ml, List.take_length] at q4
        rw [ml, ml2] at q5
        have RN : RowsIn Hx 1 N := ⟨fun e he => (q2 e he).2, q3, by omega⟩
        refine ⟨D, N, 1, rfl, q1, RN, fun N' p pm up np => ?_⟩
        have sp := same_new (o := .lst (N'.map fun e => V.ref e.1)) np
        exact k p N' _ (none_back q6 np) upd_same ((RN.perm pm).to sp) (fun x => by rw [(pm.map (·.2)).mem_iff, q4]) up fun b o z => sp _ _ (q6 _ _ z)
    · refine ⟨_, rfl, ⟨p, ms, d, rs, rfl, T1⟩, fun H1 s1 => ?_⟩
      obtain ⟨dx, A1, R, M0, h1, _⟩ := id (T1.to s1)
      refine ⟨_, rfl, p, dx, _, rfl, h1, no_attr (by decide +kernel), p, ms, d, rs, rfl, T1.to s1, fun L M H2 nL hL RM eM s2 => ?_⟩
      have s12 : Same H H2 := fun b o z => s2 _ _ (s1 _ _ z)
      have RM2 := RM.to s2
      refine ⟨_, rfl, p, dx, _, rfl, s2 _ _ h1, no_attr (by decide +kernel), p, ms, d, rs, rfl, T1.to s12, d, rfl, d3, fun L2 M2 H3 nL2 hL2 eM2 hM2 s3 => ?_⟩
      have s13 : Same H H3 := fun b o z => s3 _ _ (s12 _ _ z)
      refine ⟨L2, rfl, ⟨_, SqL.of hL2⟩, fun D hD => ?_⟩
      have ml : (M2.map fun e => V.ref e.1).length = (twosN (d + 1)).length := by rw [← eM2, List.length_map, List.length_map]
      have few2 : (twosN (d + 1)).length ≤ 10 := by
        match d, d3 with
        | 0, _ => decide
        | 1, _ => decide
        | 2, _ => decide
        | 3, _ => decide
      refine dcT_list (K := K) (a := L2) (xs := M2.map fun e => V.ref e.1) (fun n Hx => ∃ kvs : List (List Key × V), Hx D = some (.dT kvs) ∧ kvs.map (·.1) = ((twosN (d + 1)).take n).map (fun p => KV2 p.1 p.2) ∧
          (∀ e ∈ kvs, ∃ (i j : Nat) (L : Addr) (N : List (Addr × List Str)), e = (KV2 i j, .ref L) ∧ Hx L = some (.lst (N.map fun e => V.ref e.1)) ∧ RowsIn Hx 1 N ∧ ((∀ x, x ∈ N.map (·.2) ↔ x ∈ rs.map (two i j)) ∧ Up (N.map (·.2))) ∧ H L = none) ∧ Same H3 Hx)
        ⟨[], upd_same, rfl, (fun e he => nomatch he), same_new hD⟩ (fun i Hx _ ⟨_, _, _, _, z⟩ => SqL.of (z _ _ hL2)) ?_ ?_
      · rintro n x Hx hx ⟨kvs, q1, q2, q3, q4⟩
        rw [List.getElem?_map] at hx
        obtain ⟨e, he, rfl⟩ := Option.map_eq_some_iff.mp hx
        have em := List.mem_of_getElem? he
        have er : (twosN (d + 1))[n]? = some e.2 := by rw [← eM2, List.getElem?_map, he] <;> rfl
        obtain ⟨ij, jd⟩ := twosN_mem.mp (List.mem_of_getElem? er)
        have ht := q4 _ _ (hM2 e em)
        refine ⟨e.1, _, rfl, SqT.of ht, rfl, _, _, rfl, _, _, rfl, rfl, rfl, ?_⟩
        refine ⟨_, rfl, _, rfl, (by show 2 ≤ sizeLine; decide), fun t nt => ?_⟩
        have st := same_new (o := .tup [V.int (e.2.1 : Nat), V.int (e.2.2 : Nat)]) nt
        have s3x : Same H2 (upd Hx t (.tup [V.int (e.2.1 : Nat), V.int (e.2.2 : Nat)])) := fun b o z => st _ _ (q4 _ _ (s3 _ _ z))
        refine ⟨_, L, e.2.1, e.2.2, d, M, _, rfl, s3x _ _ hL, RM2.to s3x, by omega, by omega, ?_, fun L5 N H5 nL5 hL5 RN mN uN s5 => ?_⟩
        · have := congrArg List.length eM
          rw [List.length_map] at this
          omega
        have tD : t ≠ D := fun z => by
          rw [z, q1] at nt
          cases nt
        have q15 := s5 _ _ (st _ _ q1)
        have L5D : L5 ≠ D := fun z => by
          rw [z, q15] at hL5
          cases hL5
        have fresh_k : KV2 e.2.1 e.2.2 ∉ kvs.map (·.1) := fun z => by
          rw [q2] at z
          obtain ⟨v, hv, ev⟩ := List.mem_map.mp z
          have := KV2_inj ev
          subst this
          have nd := twosN_nodup d3
          obtain ⟨m, hm⟩ := List.mem_iff_getElem?.mp hv
          have lt : m < n := by
            have := (List.getElem?_eq_some_iff.mp hm).1
            rw [List.length_take] at this
            omega
          rw [List.getElem?_take_of_lt lt] at hm
          obtain ⟨l1, g1⟩ := List.getElem?_eq_some_iff.mp hm
          obtain ⟨l2, g2⟩ := List.getElem?_eq_some_iff.mp er
          have := List.pairwise_iff_getElem.mp nd m n l1 l2 lt
          rw [g1, g2] at this
          exact this rfl
        have upD : ∀ {b : Addr} {o : HO}, (∀ m, o ≠ .dT m) → H5 b = some o → (upd H5 D (.dT (putK kvs (KV2 e.2.1 e.2.2) (.ref L5)))) b = some o := fun {b o} ne z => (upd_ne (fun y => by
          rw [y, q15] at z
          exact ne _ (Option.some.inj z).symm)).trans z
        refine ⟨kvs, KV2 e.2.1 e.2.2, t, rfl, s5 _ _ upd_same, q15, ?_, ?_⟩
        · have := congrArg List.length q2
          rw [List.length_map, List.length_map, List.length_take] at this
          rw [sizeLine_eq]
          omega
        rw [putK_new fresh_k] at upD ⊢
        refine ⟨_, upd_same, ?_, fun v hv => ?_, fun b o z => (upd_ne (ne_of_none z hD)).trans (s5 _ _ (st _ _ (q4 _ _ z)))⟩
        · rw [List.map_append, q2, List.take_add_one, er, List.map_append]
          rfl
        · rcases List.mem_append.mp hv with hv | hv
          · obtain ⟨i, j, L', N', rfl, a1, a2, a3⟩ := q3 v hv
            exact ⟨i, j, L', N', rfl, upD (fun _ z => nomatch z) (s5 _ _ (st _ _ a1)), ⟨fun u hu => upD (fun _ z => nomatch z) (s5 _ _ (st _ _ (a2.at_ u hu))), a2.len, a2.few⟩, a3⟩
          · rw [List.mem_singleton.mp hv]
            exact ⟨e.2.1, e.2.2, L5, N, rfl, upD (fun _ z => nomatch z) hL5, ⟨fun u hu => upD (fun _ z => nomatch z) (RN.at_ u hu), RN.len, RN.few⟩, ⟨fun x => by rw [mN, eM], uN⟩, none_back (fun b o z => s3x _ _ (s12 _ _ z)) nL5⟩
      · rintro Hx ⟨kvs, q1, q2, q3, q4⟩
        have tl : (twosN (d + 1)).take (M2.map fun e => V.ref e.1).length = twosN (d + 1) := by rw [ml, List.take_length]
        rw [tl] at q2
        exact k D kvs Hx (none_back s13 hD) ⟨kvs, q1, q2, fun e he => by
          obtain ⟨i, j, L', N', a0, a1, a2, ⟨a3, a4⟩, _⟩ := q3 e he
          exact ⟨i, j, L', N', a0, a1, a2, a3, a4⟩⟩ q1 (fun e he L eL => by
          obtain ⟨i, j, L', N', a0, a1, a2, a3, a4⟩ := q3 e he
          rw [a0] at eL
          cases eL
          exact a4) fun b o z => q4 _ _ (s13 _ _ z)
end
end Yt

set_option Elab.async false
set_option linter.all false
set_option maxRecDepth 100000
set_option maxHeartbeats 2000000
namespace Yt
open PySem PySem.Spec PyProof.Rows L2
/-- row in a list of rows -/
def rInRows (K : PySem.W.Frag) : R2 := fun x y H Q => ∃ (t p : Addr) (r : List Str) (M : List (Addr × List Str)), x = .ref t ∧ y = .ref p ∧ H t = some (.tup (r.map V.str)) ∧ H p = some (.lst (M.map fun e => V.ref e.1)) ∧ (∀ e ∈ M, H e.1 = some (.tup (e.2.map V.str))) ∧ Q (.bl (decide (r ∈ M.map (·.2)))) H
theorem str_inj : ∀ {a b : List Str}, a.map V.str = b.map V.str → a = b
  | [], [], _ => rfl
  | [], _ :: _, h => by cases h
  | _ :: _, [], h => by cases h
  | x :: a, y :: b, h => by
    rw [List.map_cons, List.map_cons, List.cons.injEq] at h
    rw [V.str.inj h.1, str_inj h.2]
theorem items_any {P P' : Program} {w w' : World} {k : List Key} {vs : List Value} (h : ItemsAre (mixKind P w) k vs) : ItemsAre (mixKind P' w') k vs := by
  induction h with
  | nil => exact .nil
  | cons h1 _ ih => exact .cons h1 ih
theorem tup_any {P P' : Program} {w w' : World} {h : Heap} {k : List Key} {b : Addr} (x : IsTup P w h k b) : IsTup P' w' h k b := by
  obtain ⟨o, its, n, h1, h2, h3, h4⟩ := x
  exact ⟨o, its, n, h1, h2, h3, items_any h4⟩
theorem op_in_rows {X : Cx} (hu : X.A.units + 1 < cLine) : OpR X (compareOp .In) (rInRows X.K) := by
  intro pins s σ H x y v u Q I rx ry h
  obtain ⟨t, p, r, M, rfl, rfl, ht, hp, hM, q⟩ := h
  cases rx
  cases ry
  obtain ⟨its, rv, pl, hz⟩ := I.list (SqL.of hp)
  obtain rfl := refs_back rv
  have key : ∀ {b : Addr} {z : List Str}, H b = some (.tup (z.map V.str)) → IsTup X.prog X.w s.heap (kR z) b := fun {b z} e => stand_tups I.hok (L := [(b, kR z)]) (fun e' he => by
    rw [List.mem_singleton.mp he]
    show H b = some (.tup ((kR z).map kV))
    rw [kR_V]
    exact e) (b, kR z) (List.mem_singleton.mpr rfl)
  open Classical in
  refine SeqAt.in_listAt (fun v => decide (∃ e ∈ M, v = Value.ref e.1 ∧ e.2 = r)) pl.isList (fun z hz => ?_) ⟨.bl _, H, I, rfl, ?_⟩
  · have hz : z ∈ M.map fun e => Value.ref e.1 := by simpa using hz
    obtain ⟨e, he, rfl⟩ := List.mem_map.mp hz
    intro prog w E Q hq
    refine wpAny_eqBool_tuple (knd := mixKind prog w) (x := kR e.2) (y := kR r) (units_in1 hu) (tup_any (key (hM e he))) (tup_any (key ht)) ?_
    have eq1 : decide (kR e.2 = kR r) = decide (∃ e' ∈ M, Value.ref e.1 = Value.ref e'.1 ∧ e'.2 = r) := by
      by_cases c : e.2 = r
      · rw [decide_eq_true (by rw [c]), decide_eq_true ⟨e, he, rfl, c⟩]
      · rw [decide_eq_false (fun z => c (kR_inj z)), decide_eq_false]
        rintro ⟨e', he', ea, er⟩
        have ea : e.1 = e'.1 := by injection ea
        have h1 := hM e he
        rw [ea, hM e' he'] at h1
        have := str_inj (HO.tup.inj (Option.some.inj h1))
        exact c (by rw [← this, er])
    rw [eq1]
    exact hq
  · have : (Array.any ((M.map fun e => Value.ref e.1).toArray) fun v => decide (∃ e ∈ M, v = Value.ref e.1 ∧ e.2 = r)) = decide (r ∈ M.map (·.2)) := by
      rw [List.any_toArray]
      by_cases c : r ∈ M.map (·.2)
      · rw [decide_eq_true c, List.any_eq_true]
        obtain ⟨e, he, er⟩ := List.mem_map.mp c
        exact ⟨_, List.mem_map.mpr ⟨e, he, rfl⟩, decide_eq_true ⟨e, he, rfl, er⟩⟩
      · rw [decide_eq_false c, List.any_eq_false]
        rintro v hv hd
        obtain ⟨e, he, _, er⟩ := of_decide_eq_true hd
        exact c (List.mem_map.mpr ⟨e, he, er⟩)
    rw [this]
    exact q
theorem TableAt.len {C : Addr} {H : Hp} {p : Addr} {ms : List Str} {d : Nat} {rs : List (List Str)} (T : TableAt C H p ms d rs) : ∀ r ∈ rs, r.length = d + 1 := by
  obtain ⟨dx, A, R, M, h1, h2, h3, h4, rfl, h6⟩ := T
  intro r hr
  obtain ⟨e, he, rfl⟩ := List.mem_map.mp hr
  exact h4.len e he
theorem TableAt.up {C : Addr} {H : Hp} {p : Addr} {ms : List Str} {d : Nat} {rs : List (List Str)} (T : TableAt C H p ms d rs) : Up rs := by
  obtain ⟨dx, A, R, M, h1, h2, h3, h4, rfl, h6⟩ := T
  exact h6
theorem up_same {xs ys : List (List Str)} (h1 : Up xs) (h2 : Up ys) (m : ∀ r, r ∈ xs ↔ r ∈ ys) : xs = ys := up_uniq h1 h2 ((List.perm_ext_iff_of_nodup h1.nodup h2.nodup).mpr m)
end Yt

set_option Elab.async false
set_option linter.all false
set_option maxRecDepth 100000
set_option maxHeartbeats 2000000
namespace Yt
open PySem PySem.Spec PyProof.Rows L2
abbrev sLRow : Stmt := top 44
abbrev sLDrawn : Stmt := top 45
theorem PurseAt.at_ne {H : Hp} {p D : Addr} {f : Nat} {o : HO} (h : PurseAt H p f) (n : D ≠ p) : PurseAt (upd H D o) p f := by
  obtain ⟨x, y, c, t, e, h1⟩ := h
  exact ⟨x, y, c, t, by rw [upd_ne n.symm]; exact e, h1⟩
theorem PurseAt.ne {H : Hp} {p D : Addr} {f : Nat} (h : PurseAt H p f) (hD : H D = none) : D ≠ p := fun z => by
  obtain ⟨x, y, c, t, e, _⟩ := h
  rw [z, e] at hD
  cases hD
theorem But.none {p D : Addr} {H H' : Hp} (b : But p H H') (n : D ≠ p) (hD : H' D = none) : H D = none := by
  cases e : H D with
  | none => rfl
  | some o =>
    rw [b D o n e] at hD
    cases hD
section
variable {P : Program} {w : World} {K : PySem.W.Frag} {mg : Str → Option Value} {base : Heap} {f : Addr} {fd : FuncData} {C : Addr}
theorem scLRow : FnScope ["_law_purse_here", "_law_marks_here", "_law_width", "_law_position"] ["_law_purse_here", "_law_marks_here", "_law_width"] (defScope sLRow) := ⟨rfl, rfl, rfl, by decide +kernel, rfl, by decide +kernel, by decide +kernel⟩
def spLRow : Sp := fun vs H Q _ => ∃ (p a : Addr) (g d : Nat) (ms : List Str), vs = [.ref p, .ref a, .int ((d + 1 : Nat) : Int)] ∧ PurseAt H p (g + 4) ∧ H a = some (.lst (ms.map V.str)) ∧ a ≠ p ∧ 0 < ms.length ∧ ms.length ≤ 3 ∧ d ≤ 3 ∧
  ∀ (t : Addr) (r : List Str) (H' : Hp), r.length = d + 1 → (∀ z ∈ r, z ∈ ms) → t ≠ p → H' t = some (.tup (r.map V.str)) → PurseAt H' p g → But p H H' → Q (.ref t) H'
theorem ok_lrow {fO : Addr} {dO : FuncData} (F : FnP K "_law_row" sLRow f fd) (T : Nm mg) (T6 : Nm6 mg)
    (GO : FnOk P w K mg base CX0 3 fO dO ["_law_purse_here", "_law_some"] (spOne K)) (bO : Binds K dO ["_law_purse_here", "_law_some"] []) (kO : PySem.W.keepIn K (.ref fO) = true) (gO : mg "_law_one_of" = some (.ref fO)) :
    FnOk P w K mg base CX0 4 f fd ["_law_purse_here", "_law_marks_here", "_law_width"] spLRow := by
  refine F.ok scLRow (fun vs H Q E h => ?_) (fun cdv A outer s H vs Q E hr h => ?_)
  · obtain ⟨p, a, g, d, ms, rfl, _⟩ := h
    rfl
  · obtain ⟨p, a, g, d, ms, rfl, hP, ha, ne, l0, l3, d3, k⟩ := h
    refine ⟨_, PSs.nox (pss_one (ps_ret (pe_callTy call_tuple_of (by rfl) T6.tuple (by decide +kernel) (pa_cons
      (pe_lc (own := [("_law_position", 3)]) (g := gName 3) (tt := tYes) rfl scLRow.nd (pi_range1 rfl T.range (pa_cons (pv 2) pa_nil)) (blkOk_by (own := [("_law_position", 3)]) (N := ["_law_purse_here", "_law_marks_here", "_law_width", "_law_position"]) (sc := defScope sLRow) (by decide +kernel))
        (fun _ _ _ _ _ => pg_name (i := 3) scLRow.nd rfl (Or.inl rfl)) (fun _ _ _ _ _ => pts_nil)
        (fun _ _ _ _ _ => pe_call GO (hr.mono (by decide)) rfl gO kO bO .nil pass0 (pa_cons (pv 0) (pa_cons (pv 1) pa_nil)))) pa_nil)))), ?_⟩
    refine ⟨_, rfl, _, rfl, by omega, by omega, fun D hD => ?_⟩
    have nD := hP.ne hD
    refine lc_range (lo := 0) (n := d + 1) (fun i Hx => ∃ ys : List Str, ys.length = i ∧ (∀ z ∈ ys, z ∈ ms) ∧ Hx D = some (.lst (ys.map V.str)) ∧ PurseAt Hx p (g + 4 - i) ∧ But p H Hx) ⟨[], rfl, (fun z hz => nomatch hz), upd_same, hP.at_ne nD, Same.but (same_new hD)⟩ ?_ ?_
    · rintro i H3 hi ⟨ys, hl, hs, hDy, hP3, hB3⟩
      have e1 : g + 4 - i = g + 4 - (i + 1) + 1 := by omega
      rw [e1] at hP3
      refine ⟨rfl, ?_⟩
      refine ⟨_, rfl, _, rfl, p, a, g + 4 - (i + 1), ms.map V.str, rfl, hP3, SqL.of (hB3 _ _ ne ha), ne, by rw [List.length_map]; omega, fun j x H4 hj hP4 hB4 => ?_⟩
      rw [List.getElem?_map] at hj
      obtain ⟨z, hz, rfl⟩ := Option.map_eq_some_iff.mp hj
      refine ⟨_, hB4 _ _ nD hDy, by rw [List.length_map]; exact len_ok (by omega), ys ++ [z], by rw [List.length_append, hl]; rfl, ?_, by rw [upd_same, List.map_append]; rfl, hP4.at_ne nD, fun b o nb q => (upd_ne (ne_of_none q hD)).trans (hB4 _ _ nb (hB3 _ _ nb q))⟩
      intro y hy
      rcases List.mem_append.mp hy with q | q
      · exact hs y q
      · rw [List.mem_singleton.mp q]
        exact List.mem_of_getElem? hz
    · rintro Hx ⟨ys, hl, hs, hDy, hPx, hBx⟩
      refine ⟨D, ys.map V.str, rfl, .inl ⟨SqL.of hDy, fun t nt => ?_⟩⟩
      have nt' := hPx.ne nt
      exact k t ys _ hl hs nt' upd_same ((hPx.less (by omega)).at_ne nt') fun b o nb q => same_new nt _ _ (hBx _ _ nb q)
end
end Yt

set_option Elab.async false
set_option linter.all false
set_option maxRecDepth 100000
set_option maxHeartbeats 2000000
namespace Yt
open PySem PySem.Spec PyProof.Rows L2
theorem putK_keys {κ : Type} [DecidableEq κ] (m : List (κ × V)) (k : κ) (v : V) : (putK m k v).map (·.1) = if k ∈ m.map (·.1) then m.map (·.1) else m.map (·.1) ++ [k] := by
  unfold putK
  by_cases c : k ∈ m.map (·.1)
  · obtain ⟨e, he, er⟩ := List.mem_map.mp c
    rw [if_pos (List.any_eq_true.mpr ⟨e, he, decide_eq_true er⟩), if_pos c, List.map_map]
    refine List.map_congr_left fun x _ => ?_
    show (if x.1 = k then (x.1, v) else x).1 = x.1
    by_cases h : x.1 = k
    · rw [if_pos h]
    · rw [if_neg h]
  · rw [if_neg (fun z => by
      obtain ⟨e, he, er⟩ := List.any_eq_true.mp z
      exact c (List.mem_map.mpr ⟨e, he, of_decide_eq_true er⟩)), if_neg c, List.map_append]
    rfl
theorem merge_keys (l : List (List Key × V)) : ∀ m : List (List Key × V), (m.map (·.1)).Nodup → ((mergeT m l).map (·.1)).Nodup ∧ ∀ k, k ∈ (mergeT m l).map (·.1) ↔ k ∈ m.map (·.1) ∨ k ∈ l.map (·.1) := by
  induction l with
  | nil => exact fun m nd => ⟨nd, fun k => by simp [mergeT]⟩
  | cons e l ih =>
    intro m nd
    have ek := putK_keys m e.1 e.2
    have nd' : ((putK m e.1 e.2).map (·.1)).Nodup := by
      rw [ek]
      by_cases c : e.1 ∈ m.map (·.1)
      · rw [if_pos c]
        exact nd
      · rw [if_neg c, List.nodup_append]
        exact ⟨nd, List.pairwise_singleton _ _, fun a ha b hb h => c (by rw [← List.mem_singleton.mp hb, ← h]; exact ha)⟩
    obtain ⟨i1, i2⟩ := ih (putK m e.1 e.2) nd'
    refine ⟨i1, fun k => (i2 k).trans ?_⟩
    rw [ek, List.map_cons, List.mem_cons]
    by_cases c : e.1 ∈ m.map (·.1)
    · rw [if_pos c]
      constructor
      · exact fun h => h.elim .inl fun h => .inr (.inr h)
      · rintro (h | rfl | h)
        · exact .inl h
        · exact .inl c
        · exact .inr h
    · rw [if_neg c, List.mem_append, List.mem_singleton]
      constructor
      · rintro ((h | h) | h)
        · exact .inl h
        · exact .inr (.inl h)
        · exact .inr (.inr h)
      · rintro (h | h | h)
        · exact .inl (.inl h)
        · exact .inl (.inr h)
        · exact .inr h
theorem paired_maps {α β γ : Type} {R : β → γ → Prop} {f : α → β} {g : α → γ} : ∀ {l : List α}, (∀ e ∈ l, R (f e) (g e)) → Paired R (l.map f) (l.map g)
  | [], _ => .nil
  | e :: l, h => .cons (h e (List.mem_cons_self ..)) (paired_maps fun x hx => h x (List.mem_cons_of_mem _ hx))
section
variable {P : Program} {w : World} {K : PySem.W.Frag} {mg : Str → Option Value} {base : Heap} {f : Addr} {fd : FuncData} {C : Addr}
theorem scLDrawn : FnScope ["_law_purse_here", "_law_marks_here", "_law_width", "_law_most", "_law_turn"] ["_law_purse_here", "_law_marks_here", "_law_width", "_law_most"] (defScope sLDrawn) := ⟨rfl, rfl, rfl, by decide +kernel, rfl, by decide +kernel, by decide +kernel⟩
def spLDrawn : Sp := fun vs H Q _ => ∃ (p a : Addr) (g d b : Nat) (ms : List Str), vs = [.ref p, .ref a, .int ((d + 1 : Nat) : Int), .int ((b : Nat) : Int)] ∧ b ≤ 7 ∧ PurseAt H p (g + (4 * b + 1)) ∧ H a = some (.lst (ms.map V.str)) ∧ a ≠ p ∧ 0 < ms.length ∧ ms.length ≤ 3 ∧ d ≤ 3 ∧
  ∀ (L : Addr) (M : List (Addr × List Str)) (H' : Hp), H L = none → H' L = some (.lst (M.map fun e => V.ref e.1)) → RowsIn H' d M → Up (M.map (·.2)) → M.length ≤ b → (∀ e ∈ M, ∀ z ∈ e.2, z ∈ ms) → (∀ e ∈ M, e.1 ≠ p) → PurseAt H' p g → But p H H' → Q (.ref L) H'
theorem ok_ldrawn {fR fD : Addr} {dR dD : FuncData} (F : FnP K "_law_drawn_rows" sLDrawn f fd) (T : Nm mg) (T6 : Nm6 mg) (hso : mg "sorted" = none)
    (GR : FnOk P w K mg base CX0 4 fR dR ["_law_purse_here", "_law_marks_here", "_law_width"] spLRow) (bR : Binds K dR ["_law_purse_here", "_law_marks_here", "_law_width"] []) (kR' : PySem.W.keepIn K (.ref fR) = true) (gR : mg "_law_row" = some (.ref fR))
    (GD : FnOk P w K mg base CX0 2 fD dD ["_law_purse_here", "_law_many"] spDraw) (bD : Binds K dD ["_law_purse_here", "_law_many"] []) (kD : PySem.W.keepIn K (.ref fD) = true) (gD : mg "_law_draw" = some (.ref fD)) :
    FnOk P w K mg base CX0 5 f fd ["_law_purse_here", "_law_marks_here", "_law_width", "_law_most"] spLDrawn := by
  refine F.ok scLDrawn (fun vs H Q E h => ?_) (fun cdv A outer s H vs Q E hr h => ?_)
  · obtain ⟨p, a, g, d, b, ms, rfl, _⟩ := h
    rfl
  · obtain ⟨p, a, g, d, b, ms, rfl, b7, hP, ha, ne, l0, l3, d3, k⟩ := h
    have hu4 := units4 hr
    refine ⟨_, PSs.nox (pss_one (ps_ret (pe_callB (cr_sortDict rfl hu4) (by rfl) hso (by decide +kernel) (pa_cons (pe_callTy (call_dictPT rfl (units_le hu4 (by decide))) (by rfl) T6.dict (by decide +kernel) (pa_cons
      (pe_lc (own := [("_law_turn", 4)]) (g := gName 4) (tt := tYes) rfl scLDrawn.nd (pi_range1 rfl T.range (pa_cons (pe_call GD (hr.mono (by decide)) rfl gD kD bD .nil pass0 (pa_cons (pv 0) (pa_cons (pe_op op_add (pv 3) pe_int) pa_nil))) pa_nil)) (blkOk_by (own := [("_law_turn", 4)]) (N := ["_law_purse_here", "_law_marks_here", "_law_width", "_law_most", "_law_turn"]) (sc := defScope sLDrawn) (by decide +kernel))
        (fun _ _ _ _ _ => pg_name (i := 4) scLDrawn.nd rfl (Or.inl rfl)) (fun _ _ _ _ _ => pts_nil)
        (fun _ _ _ _ _ => pe_tup (pa_cons (pe_call GR (hr.mono (by decide)) rfl gR kR' bR .nil pass0 (pa_cons (pv 0) (pa_cons (pv 1) (pa_cons (pv 2) pa_nil)))) (pa_cons pe_bl pa_nil)))) pa_nil)) pa_nil)))), ?_⟩
    refine ⟨_, rfl, _, rfl, _, _, rfl, rfl, p, g + 4 * b, _, rfl, hP, ⟨by omega, by omega⟩, fun r H1 r0 r1 hP1 hB1 => ?_⟩
    have r5 : r < (b : Int) + 1 := r1
    refine ⟨_, rfl, by omega, by omega, fun D hD => ?_⟩
    have nD := hP1.ne hD
    obtain ⟨n, hn⟩ : ∃ n : Nat, r.toNat = n := ⟨_, rfl⟩
    have n4 : n ≤ b := by omega
    rw [hn]
    refine lc_range (lo := 0) (n := n) (fun i Hx => ∃ W : List (Addr × Addr × List Str), W.length = i ∧ Hx D = some (.lst (W.map fun e => V.ref e.1)) ∧ (∀ e ∈ W, (e.1 ≠ p ∧ e.1 ≠ D ∧ Hx e.1 = some (.tup [.ref e.2.1, .bl true])) ∧ (e.2.1 ≠ p ∧ e.2.1 ≠ D ∧ Hx e.2.1 = some (.tup (e.2.2.map V.str))) ∧ e.2.2.length = d + 1 ∧ ∀ z ∈ e.2.2, z ∈ ms) ∧ PurseAt Hx p (g + 4 * b - 4 * i) ∧ But p H Hx)
      ⟨[], rfl, upd_same, (fun e he => nomatch he), hP1.at_ne nD, fun b' o nb q => same_new hD _ _ (hB1 _ _ nb q)⟩ ?_ ?_
    · rintro i H3 hi ⟨W, hl, hDW, hW, hP3, hB3⟩
      have e1 : g + 4 * b - 4 * i = g + 4 * b - 4 * (i + 1) + 4 := by omega
      rw [e1] at hP3
      refine ⟨rfl, ?_⟩
      refine ⟨_, rfl, _, rfl, _, rfl, p, a, g + 4 * b - 4 * (i + 1), d, ms, rfl, hP3, hB3 _ _ ne ha, ne, l0, l3, d3, fun t row H4 lr orr tp ht hP4 hB4 => ?_⟩
      refine ⟨by show 2 ≤ sizeLine; decide, fun u nu => ?_⟩
      have up := hP4.ne nu
      have su := same_new (o := .tup [.ref t, .bl true]) nu
      have hD4 := hB4 _ _ nD hDW
      have uD : u ≠ D := fun z => by
        rw [z, hD4] at nu
        cases nu
      have tD : t ≠ D := fun z => by
        rw [z, hD4] at ht
        cases ht
      refine ⟨_, su _ _ hD4, by rw [List.length_map]; exact len_ok (by omega), W ++ [(u, t, row)], by rw [List.length_append, hl]; rfl, by rw [upd_same, List.map_append]; rfl, fun e he => ?_, (hP4.at_ne up).at_ne nD, fun b' o nb q => ?_⟩
      · rcases List.mem_append.mp he with he | he
        · obtain ⟨⟨a1, a2, a3⟩, ⟨b1, b2, b3⟩, c⟩ := hW e he
          exact ⟨⟨a1, a2, (upd_ne a2).trans (su _ _ (hB4 _ _ a1 a3))⟩, ⟨b1, b2, (upd_ne b2).trans (su _ _ (hB4 _ _ b1 b3))⟩, c⟩
        · rw [List.mem_singleton.mp he]
          exact ⟨⟨up, uD, (upd_ne uD).trans upd_same⟩, ⟨tp, tD, (upd_ne tD).trans (su _ _ ht)⟩, lr, orr⟩
      · by_cases hb : b' = D
        · rw [hb] at q
          have := hB1.none nD hD
          rw [q] at this
          cases this
        · exact (upd_ne hb).trans (su _ _ (hB4 _ _ nb (hB3 _ _ nb q)))
    · rintro Hx ⟨W, hl, hDW, hW, hPx, hBx⟩
      refine ⟨D, W.map (·.1), W.map fun e => (e.2.1, kR e.2.2, V.bl true), rfl, SqL.of (by rw [List.map_map]; exact hDW), paired_maps fun e he => ⟨SqT.of (hW e he).1.2.2, ?_⟩, fun q nq => ?_⟩
      · show Hx e.2.1 = some (.tup ((kR e.2.2).map kV))
        rw [kR_V]
        exact (hW e he).2.1.2.2
      have sq := same_new (o := .dT (mergeT [] ((W.map fun e => (e.2.1, kR e.2.2, V.bl true)).map (·.2)))) nq
      obtain ⟨nd, mk⟩ := merge_keys ((W.map fun e => (e.2.1, kR e.2.2, V.bl true)).map (·.2)) [] List.nodup_nil
      have len4 : (mergeT [] ((W.map fun e => (e.2.1, kR e.2.2, V.bl true)).map (·.2))).length ≤ b := by
        have := mergeT_len ((W.map fun e => (e.2.1, kR e.2.2, V.bl true)).map (·.2)) []
        rw [List.length_map, List.length_map] at this
        simp only [List.length_nil] at this
        omega
      have from_ : ∀ k, k ∈ (mergeT [] ((W.map fun e => (e.2.1, kR e.2.2, V.bl true)).map (·.2))).map (·.1) → ∃ e ∈ W, k = kR e.2.2 := fun k hk => by
        rcases (mk k).mp hk with z | z
        · cases z
        · rw [List.map_map, List.map_map] at z
          obtain ⟨e, he, rfl⟩ := List.mem_map.mp z
          exact ⟨e, he, rfl⟩
      refine ⟨q, _, d, rfl, upd_same, nd, by omega, fun e he => ?_, fun M eM RM => ?_⟩
      · obtain ⟨u, hu, er⟩ := from_ e.1 (List.mem_map.mpr ⟨e, he, rfl⟩)
        exact ⟨u.2.2, er, (hW u hu).2.2.1⟩
      intro M' L pm up nL
      have sL := same_new (o := .lst (M'.map fun e => V.ref e.1)) nL
      have hPq := hPx.at_ne (D := q) (o := .dT (mergeT [] ((W.map fun e => (e.2.1, kR e.2.2, V.bl true)).map (·.2)))) (hPx.ne nq)
      have nLp := hPq.ne nL
      have lM : M.length ≤ b := by
        have := congrArg List.length eM
        rw [List.length_map, List.length_map] at this
        omega
      have orM : ∀ e ∈ M, ∀ z ∈ e.2, z ∈ ms := fun e he => by
        obtain ⟨u, hu, er⟩ := from_ (kR e.2) (by rw [← eM]; exact List.mem_map.mpr ⟨e, he, rfl⟩)
        rw [kR_inj er]
        exact (hW u hu).2.2.2
      have neM : ∀ e ∈ M, e.1 ≠ p := fun e he z => by
        have h1 := RM.at_ e he
        obtain ⟨x, y, c, t, h2, _⟩ := hPq
        rw [z, h2] at h1
        cases h1
      refine k L M' _ ?_ upd_same ((RM.perm pm).to sL) up (by rw [pm.length_eq]; exact lM) (fun e he => orM e (pm.mem_iff.mp he)) (fun e he => neM e (pm.mem_iff.mp he)) ((hPq.at_ne nLp).less (by omega)) fun b' o nb z => sL _ _ (sq _ _ (hBx _ _ nb z))
      exact hBx.none nLp (none_back sq nL)
end
end Yt

set_option Elab.async false
set_option linter.all false
set_option maxRecDepth 100000
set_option maxHeartbeats 2000000
namespace Yt
open PySem PySem.Spec PyProof.Rows L2
abbrev sLTold : Stmt := top 47
abbrev sLIs : Stmt := top 48
theorem ex_strs {H : Hp} {n : Nat} : ∀ zs : List Str, Paired (Ex H n []) (zs.map V.str) (zs.map V.str)
  | [] => .nil
  | z :: zs => .cons (Ex.leaf rfl) (ex_strs zs)
theorem ex_rows {H : Hp} {n : Nat} : ∀ {M N : List (Addr × List Str)}, M.map (·.2) = N.map (·.2) → (∀ e ∈ M, H e.1 = some (.tup (e.2.map V.str)) ∧ e.2.length ≤ 1000) → (∀ e ∈ N, H e.1 = some (.tup (e.2.map V.str))) → Paired (Ex H (n + 1) []) (M.map fun e => V.ref e.1) (N.map fun e => V.ref e.1)
  | [], [], _, _, _ => .nil
  | [], _ :: _, h, _, _ => by cases h
  | _ :: _, [], h, _, _ => by cases h
  | e :: M, u :: N, h, h1, h2 => by
    rw [List.map_cons, List.map_cons, List.cons.injEq] at h
    refine .cons (.inr (.inr (.inl ⟨e.1, u.1, e.2.map V.str, e.2.map V.str, rfl, rfl, (by simp), (by simp), (h1 e (List.mem_cons_self ..)).1, ?_, ex_strs _, ?_⟩))) (ex_rows h.2 (fun x hx => h1 x (List.mem_cons_of_mem _ hx)) fun x hx => h2 x (List.mem_cons_of_mem _ hx))
    · rw [h.1]
      exact h2 u (List.mem_cons_self ..)
    · rw [List.length_map]
      exact (h1 e (List.mem_cons_self ..)).2
section
variable {P : Program} {w : World} {K : PySem.W.Frag} {mg : Str → Option Value} {base : Heap} {f : Addr} {fd : FuncData} {C : Addr}
theorem scLTold : FnScope ["_law_table"] ["_law_table"] (defScope sLTold) := ⟨rfl, rfl, rfl, by decide +kernel, rfl, by decide +kernel, by decide +kernel⟩
def spLTold (C : Addr) : Sp := fun vs H Q _ => ∃ (p : Addr) (ms : List Str) (d : Nat) (rs : List (List Str)), vs = [.ref p] ∧ TableAt C H p ms d rs ∧
  ∀ (L A R : Addr) (M : List (Addr × List Str)) (H' : Hp), H L = none → H' L = some (.lst [.ref A, .int ((d + 1 : Nat) : Int), .ref R]) → H' A = some (.lst (ms.map V.str)) → H' R = some (.lst (M.map fun e => V.ref e.1)) → RowsIn H' d M → M.map (·.2) = rs → Same H H' → Q (.ref L) H'
theorem ok_ltold (F : FnP K "_law_told_table" sLTold f fd) (TM : TM P w K mg base C) : FnOk P w K mg base CX0 2 f fd ["_law_table"] (spLTold C) := by
  obtain ⟨fA, dA, GA, bA, mA⟩ := TM.marks
  obtain ⟨fW, dW, GW, bW, mW⟩ := TM.width
  obtain ⟨fR, dR, GR, bR, mR⟩ := TM.rows
  have TT := TM.tc
  refine F.ok scLTold (fun vs H Q E h => ?_) (fun cdv A outer s H vs Q E hr h => ?_)
  · obtain ⟨p, ms, d, rs, rfl, _⟩ := h
    rfl
  · obtain ⟨p, ms, d, rs, rfl, T1, k⟩ := h
    refine ⟨_, PSs.nox (pss_one (ps_ret (pe_lst (pa_cons (pe_meth0 (pv 0) TT.cl mA GA (hr.mono (by decide)) bA .nil pass0) (pa_cons (pe_meth0 (pv 0) TT.cl mW GW (hr.mono (by decide)) bW .nil pass0) (pa_cons (pe_meth0 (pv 0) TT.cl mR GR (hr.mono (by decide)) bR .nil pass0) pa_nil)))))), ?_⟩
    obtain ⟨dx, A1, R, M0, h1, _⟩ := id T1
    refine ⟨_, rfl, p, dx, _, rfl, h1, no_attr (by decide +kernel), p, ms, d, rs, rfl, T1, fun A2 H2 nA2 hA2 s2 => ?_⟩
    refine ⟨_, rfl, p, dx, _, rfl, s2 _ _ h1, no_attr (by decide +kernel), p, ms, d, rs, rfl, T1.to s2, ?_⟩
    refine ⟨_, rfl, p, dx, _, rfl, s2 _ _ h1, no_attr (by decide +kernel), p, ms, d, rs, rfl, T1.to s2, fun R3 M3 H3 nR3 hR3 RM eM s3 => ?_⟩
    have s23 : Same H H3 := fun b o z => s3 _ _ (s2 _ _ z)
    refine ⟨by show 3 ≤ sizeLine; decide, fun L nL => ?_⟩
    have sL := same_new (o := .lst [.ref A2, .int ((d + 1 : Nat) : Int), .ref R3]) nL
    exact k L A2 R3 M3 _ (none_back s23 nL) upd_same (sL _ _ (s3 _ _ hA2)) (sL _ _ hR3) ((RM.to s3).to sL) eM fun b o z => sL _ _ (s23 _ _ z)
theorem scLIs : FnScope ["_law_table", "_law_marks_here", "_law_width", "_law_rows"] ["_law_table", "_law_marks_here", "_law_width", "_law_rows"] (defScope sLIs) := ⟨rfl, rfl, rfl, by decide +kernel, rfl, by decide +kernel, by decide +kernel⟩
def spLIs (C : Addr) : Sp := fun vs H Q _ => ∃ (p a l : Addr) (ms : List Str) (d : Nat) (rs : List (List Str)) (N : List (Addr × List Str)), vs = [.ref p, .ref a, .int ((d + 1 : Nat) : Int), .ref l] ∧ TableAt C H p ms d rs ∧ H a = some (.lst (ms.map V.str)) ∧ H l = some (.lst (N.map fun e => V.ref e.1)) ∧ RowsIn H d N ∧ (N.map (·.2)).Nodup ∧ (∀ r, r ∈ rs ↔ r ∈ N.map (·.2)) ∧ ms.length ≤ 3 ∧ d ≤ 3 ∧
  ∀ H', Same H H' → Q (.bl true) H'
theorem ok_lis {fT fX : Addr} {dT dX : FuncData} (F : FnP K "_law_is_table" sLIs f fd) (TM : TM P w K mg base C) (T6 : Nm6 mg) (hso : mg "sorted" = none)
    (GT : FnOk P w K mg base CX0 2 fT dT ["_law_table"] (spLTold C)) (bT : Binds K dT ["_law_table"] []) (kT : PySem.W.keepIn K (.ref fT) = true) (gT : mg "_law_told_table" = some (.ref fT))
    (GX : FnOk P w K mg base CX0 4 fX dX ["_law_mine", "_law_theirs"] (spExact K 4)) (bX : Binds K dX ["_law_mine", "_law_theirs"] []) (kX : PySem.W.keepIn K (.ref fX) = true) (gX : mg "_law_exact" = some (.ref fX)) :
    FnOk P w K mg base CX0 5 f fd ["_law_table", "_law_marks_here", "_law_width", "_law_rows"] (spLIs C) := by
  have TT := TM.tc
  refine F.ok scLIs (fun vs H Q E h => ?_) (fun cdv A outer s H vs Q E hr h => ?_)
  · obtain ⟨p, a, l, ms, d, rs, N, rfl, _⟩ := h
    rfl
  · obtain ⟨p, a, l, ms, d, rs, N, rfl, T1, ha, hl, RN, nd, mem, m3, d3, k⟩ := h
    have hu4 := units4 hr
    refine ⟨_, PSs.nox (pss_one (ps_ret (pe_and (pe_callB call_isi (by rfl) T6.isi (by decide +kernel) (pa_cons (pv 0) (pa_cons (pe_glob (v := .ref C) rfl TT.mgC rfl) pa_nil)))
      (pe_one (pe_call GX (hr.mono (by decide)) rfl gX kX bX .nil pass0 (pa_cons (pe_call GT (hr.mono (by decide)) rfl gT kT bT .nil pass0 (pa_cons (pv 0) pa_nil)) (pa_cons (pe_lst (pa_cons (pv 1) (pa_cons (pv 2) (pa_cons (pe_callB (cr_sortList rfl hu4) (by rfl) hso (by decide +kernel) (pa_cons (pv 3) pa_nil)) pa_nil)))) pa_nil))))))), ?_⟩
    obtain ⟨dx, A1, R, M0, h1, _⟩ := id T1
    refine ⟨_, rfl, _, _, .ref C, _, true, rfl, .own C, TT.is h1, TT.kit, true, rfl, ?_⟩
    refine iteT ?_
    refine ⟨_, rfl, p, ms, d, rs, rfl, T1, fun L A2 R2 M H2 nL hL hA hR RM eM s2 => ?_⟩
    refine ⟨_, rfl, _, rfl, _, rfl, l, N, d, rfl, SqL.of (s2 _ _ hl), RN.to s2, nd, fun N' S pm up nS => ?_⟩
    have sS := same_new (o := .lst (N'.map fun e => V.ref e.1)) nS
    refine ⟨by show 3 ≤ sizeLine; decide, fun T nT => ?_⟩
    have sT := same_new (o := .lst [.ref a, .int ((d + 1 : Nat) : Int), .ref S]) nT
    have s5 : Same H2 (upd (upd H2 S (.lst (N'.map fun e => V.ref e.1))) T (.lst [.ref a, .int ((d + 1 : Nat) : Int), .ref S])) := fun b o z => sT _ _ (sS _ _ z)
    have e1 : M.map (·.2) = N'.map (·.2) := by
      rw [eM]
      exact up_same T1.up up fun r => (mem r).trans ((pm.map (·.2)).mem_iff).symm
    have RM5 := RM.to s5
    have RN5 := ((RN.to s2).perm pm).to s5
    have fM : (M.map fun e => V.ref e.1).length ≤ 1000 := by
      rw [List.length_map]
      have := RM.few
      omega
    refine ⟨[], .ref L, .ref T, rfl, .inr (.inl ⟨L, T, _, _, rfl, rfl, (by simp), (by simp), s5 _ _ hL, upd_same, .cons ?_ (.cons (Ex.leaf rfl) (.cons ?_ .nil)), (show 3 ≤ 1000 by decide)⟩), fun H6 s6 => k H6 fun b o z => s6 _ _ (s5 _ _ (s2 _ _ z))⟩
    · exact .inr (.inl ⟨A2, a, _, _, rfl, rfl, (by simp), (by simp), s5 _ _ hA, s5 _ _ (s2 _ _ ha), ex_strs _, by rw [List.length_map]; omega⟩)
    · exact .inr (.inl ⟨R2, S, _, _, rfl, rfl, (by simp), (by simp), s5 _ _ hR, sT _ _ upd_same, ex_rows e1 (fun e he => ⟨RM5.at_ e he, by rw [RM5.len e he]; omega⟩) (fun e he => RN5.at_ e he), fM⟩)
end
end Yt

set_option Elab.async false
set_option linter.all false
set_option maxRecDepth 100000
set_option maxHeartbeats 2000000
namespace Yt
open PySem PySem.Spec PyProof.Rows L2
abbrev sLEvery : Stmt := top 46
/-- a list of rows -/
def RowsAt (H : Hp) (L : Addr) (N : List (Addr × List Str)) : Prop := H L = some (.lst (N.map fun e => V.ref e.1)) ∧ ∀ e ∈ N, H e.1 = some (.tup (e.2.map V.str))
theorem RowsAt.to {H H' : Hp} {L : Addr} {N : List (Addr × List Str)} (h : RowsAt H L N) (s : Same H H') : RowsAt H' L N := ⟨s _ _ h.1, fun e he => s _ _ (h.2 e he)⟩
theorem kR_app (r : List Str) (c : Str) : kR (r ++ [c]) = kR r ++ [Sum.inr c] := by
  unfold kR
  rw [List.map_append]
  rfl
theorem growN_rows (ms : List Str) : ∀ n, growN ms n = (rowsN ms n).map kR
  | 0 => rfl
  | n + 1 => by
    show grow ms (growN ms n) = ((rowsN ms n).flatMap fun r => ms.map fun c => r ++ [c]).map kR
    rw [growN_rows ms n]
    unfold grow
    rw [List.flatMap_map, List.map_flatMap]
    congr 1
    funext r
    rw [List.map_map]
    exact List.map_congr_left fun c _ => (kR_app r c).symm
theorem paired_rows {H : Hp} : ∀ {ts : List Addr} {rs : List (List Str)}, Paired (TupAt H) ts (rs.map kR) → ∃ M : List (Addr × List Str), M.map (·.2) = rs ∧ (ts.map V.ref = M.map fun e => V.ref e.1) ∧ ∀ e ∈ M, H e.1 = some (.tup (e.2.map V.str))
  | [], [], _ => ⟨[], rfl, rfl, fun e he => nomatch he⟩
  | t :: ts, r :: rs, h => by
    cases h with
    | cons h1 h2 =>
      obtain ⟨M, e1, e2, e3⟩ := paired_rows h2
      refine ⟨(t, r) :: M, by rw [List.map_cons, e1], by rw [List.map_cons, List.map_cons, e2], fun e he => ?_⟩
      rcases List.mem_cons.mp he with rfl | he
      · have h1 : H t = some (.tup ((kR r).map kV)) := h1
        rw [kR_V] at h1
        exact h1
      · exact e3 e he
def spLEvery : Sp := fun vs H Q _ => ∃ (a : Addr) (ms : List Str) (n : Nat), vs = [.ref a, .int (n : Nat)] ∧ H a = some (.lst (ms.map V.str)) ∧ ms.length ≤ 3 ∧ n ≤ 4 ∧
  ∀ (L : Addr) (M : List (Addr × List Str)) (H' : Hp), H L = none → RowsAt H' L M → M.map (·.2) = rowsN ms n → Same H H' → Q (.ref L) H'
section
variable {P : Program} {w : World} {K : PySem.W.Frag} {mg : Str → Option Value} {base : Heap} {f : Addr} {fd : FuncData}
theorem scEvery : FnScope ["_law_marks_here", "_law_width", "_law_found", "_law_turn", "_law_longer", "_law_row_here", "_law_mark"] ["_law_marks_here", "_law_width"] (defScope sLEvery) := ⟨rfl, rfl, rfl, by decide +kernel, rfl, by decide +kernel, by decide +kernel⟩
theorem ok_every (F : FnP K "_law_every" sLEvery f fd) (T : Nm mg) : FnOk P w K mg base CX0 1 f fd ["_law_marks_here", "_law_width"] spLEvery := by
  refine F.ok scEvery (fun vs H Q E h => ?_) (fun cdv A outer s H vs Q E hr h => ?_)
  · obtain ⟨a, ms, n, rfl, _⟩ := h
    rfl
  · obtain ⟨a, ms, n, rfl, hS0, few, n4, k⟩ := h
    have hS : SqL K H a (ms.map V.str) := SqL.of hS0
    refine ⟨_, PSs.nox (pss_cons (ps_set (i := 2) scEvery.nd rfl (Or.inl rfl) (pe_lst (pa_cons (pe_tup pa_nil) pa_nil)))
      (pss_cons (ps_for PassesOwn.never rfl (pi_range1 rfl T.range (pa_cons (pv 1) pa_nil)) (pg_name (i := 3) scEvery.nd rfl (Or.inl rfl))
        (pss_cons (ps_set (i := 4) scEvery.nd rfl (Or.inl rfl) (pe_lst pa_nil))
        (pss_cons (ps_for PassesOwn.never rfl (pi_list (pv 2)) (pg_name (i := 5) scEvery.nd rfl (Or.inr rfl))
          (pss_one (ps_set (i := 4) scEvery.nd rfl (Or.inl rfl) (pe_op op_cat (pv 4) (pe_lc (own := [("_law_mark", 6)]) (g := gName 6) (tt := tYes) (te := tOp (rCatA K) (tVar 5) (tTup (tCons (tVar 6) tNil))) rfl scEvery.nd (pi_list (pv 0)) (blkOk_by (own := [("_law_mark", 6)]) (N := ["_law_marks_here", "_law_width", "_law_found", "_law_turn", "_law_longer", "_law_row_here", "_law_mark"]) (sc := defScope sLEvery) (by decide +kernel))
            (fun _ _ _ _ _ => pg_name (i := 6) scEvery.nd rfl (Or.inl rfl)) (fun _ _ _ _ _ => pts_nil) (fun _ _ _ _ _ => pe_op op_catA (pv 5) (pe_tup (pa_cons (pv 6) pa_nil))))))))
        (pss_one (ps_set (i := 2) scEvery.nd rfl (Or.inl rfl) (pv 4))))))
      (pss_one (ps_ret (pv 2))))), ?_⟩
    have small5 : ∀ n, n ≤ 4 → (growN ms n).length ≤ 125 := fun n hn => by
      rw [growN_len]
      calc ms.length ^ n ≤ 3 ^ n := Nat.pow_le_pow_left few n
        _ ≤ 3 ^ 4 := Nat.pow_le_pow_right (by decide) hn
        _ ≤ 125 := by decide
    have sz : ∀ {n : Nat}, n ≤ 1000 → n ≤ sizeLine := fun h => by
      rw [sizeLine_eq]
      omega
    refine ⟨(by show 0 ≤ sizeLine; decide), fun t0 nt0 => ⟨(by show 1 ≤ sizeLine; decide), fun L0 nL0 => ?_⟩⟩
    have s0 := same_new (o := .tup []) nt0
    have sL := same_new (o := .lst [V.ref t0]) nL0
    refine ⟨_, rfl, _, rfl, by omega, by omega, for_range (lo := 0) (n := (n : Int).toNat) (fun i σ Hc => ∃ (v2 v3 v4 v5 : Option V) (L : Addr) (ts : List Addr), σ = [some (.ref a), some (.int n), some (.ref L), v2, v3, v4, v5] ∧ H L = none ∧ Hc L = some (.lst (ts.map V.ref)) ∧ Paired (TupAt Hc) ts (growN ms i) ∧ Same H Hc)
      ⟨none, none, none, none, L0, [t0], rfl, ?_, upd_same, .cons (sL _ _ upd_same) .nil, fun b o e => sL _ _ (s0 _ _ e)⟩ ?_ ?_⟩
    · cases e : H L0 with
      | none => rfl
      | some o =>
        rw [s0 _ _ e] at nL0
        cases nL0
    · rintro i σ Hc hi ⟨v2, v3, v4, v5, L, ts, rfl, nL, hL, hT, hH⟩
      have li := small5 i (by omega)
      have li1 := small5 (i + 1) (by omega)
      refine ⟨(by show 0 ≤ sizeLine; decide), fun G0 nG0 => ?_⟩
      have sG := same_new (o := .lst []) nG0
      have nGH : ∀ {q : Addr} {Hx : Hp}, Same H Hx → Hx q = none → H q = none := fun {q Hx} z e => by
        cases e2 : H q with
        | none => rfl
        | some o =>
          rw [z _ _ e2] at e
          cases e
      refine ⟨_, rfl, L, rfl, ⟨_, SqL.of (sG _ _ hL)⟩, for_list (K := K) (a := L) (xs := ts.map V.ref) (fun j σ Hd => ∃ (w2 w4 w5 : Option V) (G : Addr) (gs : List Addr), σ = [some (.ref a), some (.int n), some (.ref L), w2, some (.ref G), w4, w5] ∧ H G = none ∧ Hd G = some (.lst (gs.map V.ref)) ∧ Paired (TupAt Hd) gs (grow ms ((growN ms i).take j)) ∧ Same Hc Hd)
        ⟨some (.int (0 + i)), v4, v5, G0, [], rfl, nGH hH nG0, upd_same, .nil, sG⟩ (fun j σ Hd _ ⟨_, _, _, _, _, _, _, _, _, z⟩ => SqL.of (z _ _ hL)) ?_ ?_⟩
      · rintro j u σ Hd hj ⟨w2, w4, w5, G, gs, rfl, nG, hG, hgs, hD⟩
        obtain ⟨t, et, rfl⟩ : ∃ t, ts[j]? = some t ∧ V.ref t = u := by
          rw [List.getElem?_map] at hj
          exact Option.map_eq_some_iff.mp hj
        obtain ⟨sk, ek, ht⟩ := paired_at' hT et
        have hd1 : TupAt Hd t sk := hD _ _ ht
        have etk : (growN ms i).take (j + 1) = (growN ms i).take j ++ [sk] := by rw [List.take_add_one, ek] <;> rfl
        have gl : gs.length = (grow ms ((growN ms i).take j)).length := Paired.length hgs
        have grl : (grow ms ((growN ms i).take j)).length + ms.length ≤ 130 := by
          rw [grow_len, List.length_take]
          have h1 : min j (growN ms i).length * ms.length ≤ (growN ms i).length * ms.length := Nat.mul_le_mul_right _ (Nat.min_le_right _ _)
          have h2 : (growN ms i).length * ms.length = (growN ms (i + 1)).length := by rw [growN, grow_len]
          omega
        have hHd : Same H Hd := fun b o e => hD _ _ (hH _ _ e)
        refine ⟨_, rfl, _, rfl, a, rfl, ⟨_, hHd.seq hS⟩, fun D nD => ?_⟩
        have sD := same_new (o := .lst []) nD
        refine lc_list (K := K) (a := a) (xs := ms.map V.str) (fun c Hx => ∃ rs : List Addr, Hx D = some (.lst (rs.map V.ref)) ∧ Paired (fun r kk => r ≠ D ∧ TupAt Hx r kk) rs ((ms.take c).map fun z => sk ++ [Sum.inr z]) ∧ Same Hd Hx) ?_ ?_ ?_ ?_
        · exact ⟨[], upd_same, .nil, sD⟩
        · rintro c Hx hc ⟨rs, q1, q2, q3⟩
          exact q3.seq (hHd.seq hS)
        · rintro c x Hx hx ⟨rs, q1, q2, q3⟩
          obtain ⟨z, ez, rfl⟩ : ∃ z, ms[c]? = some z ∧ V.str z = x := by
            rw [List.getElem?_map] at hx
            exact Option.map_eq_some_iff.mp hx
          have hcl : c < ms.length := (List.getElem?_eq_some_iff.mp ez).1
          have emk : (ms.take (c + 1)).map (fun z => sk ++ [(Sum.inr z : Key)]) = (ms.take c).map (fun z => sk ++ [Sum.inr z]) ++ [sk ++ [Sum.inr z]] := by
            rw [List.take_add_one, ez, List.map_append] <;> rfl
          have rl : rs.length = c := by
            rw [Paired.length q2, List.length_map, List.length_take]
            omega
          have skl : sk.length = i := growN_each ms i sk (List.mem_of_getElem? ek)
          refine ⟨rfl, ?_⟩
          refine ⟨_, rfl, _, rfl, (by show 1 ≤ sizeLine; decide), fun t1 nt1 => ?_⟩
          have s1 := same_new (o := .tup [V.str z]) nt1
          have put : ∀ (r : Addr) (Hy : Hp), Same Hx Hy → Hx r = none → Hy r = some (.tup ((sk ++ [(Sum.inr z : Key)]).map kV)) →
              ∃ acc, Hy D = some (.lst acc) ∧ acc.length < sizeLine ∧ ∃ rs : List Addr, (upd Hy D (.lst (acc ++ [V.ref r]))) D = some (.lst (rs.map V.ref)) ∧ Paired (fun q kk => q ≠ D ∧ TupAt (upd Hy D (.lst (acc ++ [V.ref r]))) q kk) rs ((ms.take (c + 1)).map fun z => sk ++ [Sum.inr z]) ∧ Same Hd (upd Hy D (.lst (acc ++ [V.ref r]))) := by
            intro r Hy sy nr hr
            have rD : r ≠ D := fun q => by
              rw [q, q1] at nr
              cases nr
            refine ⟨_, sy _ _ q1, ?_, rs ++ [r], ?_, ?_, fun b o e => ?_⟩
            · rw [List.length_map, rl]
              exact len_ok (by omega)
            · rw [upd_same, List.map_append] <;> rfl
            · rw [emk]
              exact Paired.snoc (Paired.mapP q2 fun r' kk h => ⟨h.1, (upd_ne h.1).trans (sy _ _ h.2)⟩) ⟨rD, (upd_ne rD).trans hr⟩
            · exact (upd_ne (ne_of_none e nD)).trans (sy _ _ (q3 _ _ e))
          have ht1 := s1 _ _ (q3 _ _ hd1)
          refine ⟨t, t1, sk.map kV, [V.str z], rfl, rfl, SqT.of ht1, SqT.of upd_same, ?_, fun e0 => ?_, fun _ e1 => (by simp at e1), fun e0 _ r nr => ?_⟩
          · rw [List.length_map, skl]
            exact sz (show i + 1 ≤ 1000 by omega)
          · have : sk = [] := List.map_eq_nil_iff.mp e0
            refine put t1 _ s1 nt1 ?_
            rw [this]
            exact upd_same
          · refine put r _ (fun b o e => same_new nr _ _ (s1 _ _ e)) ?_ ?_
            · cases e : Hx r with
              | none => rfl
              | some o =>
                rw [s1 _ _ e] at nr
                cases nr
            · rw [upd_same, List.map_append] <;> rfl
        · rintro Hx ⟨rs, q1, q2, q3⟩
          rw [List.length_map, List.take_length] at q2
          have rl : rs.length = ms.length := by rw [Paired.length q2, List.length_map]
          refine ⟨G, D, gs.map V.ref, rs.map V.ref, rfl, rfl, q3 _ _ hG, q1, ?_, fun p np => ?_⟩
          · rw [List.length_map, List.length_map, gl, rl]
            exact sz (by omega)
          · have sp := same_new (o := .lst (gs.map V.ref ++ rs.map V.ref)) np
            refine ⟨_, _, _, p, gs ++ rs, rfl, ?_, ?_, ?_, fun b o e => sp _ _ (q3 _ _ (hD _ _ e))⟩
            · exact nGH (fun b o e => q3 _ _ (hHd _ _ e)) np
            · rw [upd_same, List.map_append]
            · rw [etk, grow_append]
              refine pair_app (Paired.mapP hgs fun r kk h => sp _ _ (q3 _ _ h)) ?_
              have e1 : grow ms [sk] = ms.map fun z => sk ++ [(Sum.inr z : Key)] := by
                unfold grow
                rw [List.flatMap_cons, List.flatMap_nil, List.append_nil]
              rw [e1]
              exact Paired.mapP q2 fun r kk h => sp _ _ h.2
      · rintro σ Hd ⟨w2, w4, w5, G, gs, rfl, nG, hG, hgs, hD⟩
        refine ⟨_, rfl, ?_⟩
        refine ⟨_, _, _, _, G, gs, rfl, nG, hG, ?_, fun b o e => hD _ _ (hH _ _ e)⟩
        rw [show (ts.map V.ref).length = (growN ms i).length by rw [List.length_map]; exact Paired.length hT, List.take_length] at hgs
        exact hgs
    · rintro σ Hc ⟨v2, v3, v4, v5, L, ts, rfl, nL, hL, hT, hH⟩
      have en : (n : Int).toNat = n := by omega
      rw [en, growN_rows] at hT
      obtain ⟨M, e1, e2, e3⟩ := paired_rows hT
      rw [e2] at hL
      exact ⟨_, rfl, k L M Hc nL ⟨hL, e3⟩ e1 hH⟩
end
end Yt

set_option Elab.async false
set_option linter.all false
set_option maxRecDepth 100000
set_option maxHeartbeats 2000000
namespace Yt
open PySem PySem.Spec PyProof.Rows L2
abbrev sLTwos : Stmt := top 49
abbrev twosOf (n : Nat) (l : List Nat) : List (Nat × Nat) := l.flatMap fun i => (List.range (n - i)).map fun c => (i, i + c)
theorem twosOf_len (n : Nat) (l : List Nat) : (twosOf n l).length ≤ l.length * n := by
  induction l with
  | nil => simp [twosOf]
  | cons x l ih =>
    unfold twosOf at ih ⊢
    rw [List.flatMap_cons, List.length_append, List.length_map, List.length_range, List.length_cons, Nat.add_mul]
    omega
section
variable {P : Program} {w : World} {K : PySem.W.Frag} {mg : Str → Option Value} {base : Heap} {f : Addr} {fd : FuncData}
theorem scLTwos : FnScope ["_law_width", "_law_found", "_law_one", "_law_other"] ["_law_width"] (defScope sLTwos) := ⟨rfl, rfl, rfl, by decide +kernel, rfl, by decide +kernel, by decide +kernel⟩
theorem ok_ltwos (F : FnP K "_law_twos_of" sLTwos f fd) (T : Nm mg) : FnOk P w K mg base CX0 1 f fd ["_law_width"] spTwos := by
  refine F.ok scLTwos (fun vs H Q E h => ?_) (fun cdv A outer s H vs Q E hr h => ?_)
  · obtain ⟨d, rfl, _⟩ := h
    rfl
  · obtain ⟨d, rfl, d3, k⟩ := h
    refine ⟨_, PSs.nox (pss_cons (ps_set (i := 1) scLTwos.nd rfl (Or.inl rfl) (pe_lst pa_nil))
      (pss_cons (ps_for PassesOwn.never rfl (pi_range1 rfl T.range (pa_cons (pv 0) pa_nil)) (pg_name (i := 2) scLTwos.nd rfl (Or.inr rfl))
        (pss_one (ps_set (i := 1) scLTwos.nd rfl (Or.inl rfl) (pe_op op_cat (pv 1) (pe_lc (own := [("_law_other", 3)]) (g := gName 3) (tt := tYes) (te := tTup (tCons (tVar 2) (tCons (tVar 3) tNil))) rfl scLTwos.nd (pi_range2 (by rfl) T.range (pa_cons (pv 2) (pa_cons (pv 0) pa_nil))) (blkOk_by (own := [("_law_other", 3)]) (N := ["_law_width", "_law_found", "_law_one", "_law_other"]) (sc := defScope sLTwos) (by decide +kernel))
          (fun _ _ _ _ _ => pg_name (i := 3) scLTwos.nd rfl (Or.inl rfl)) (fun _ _ _ _ _ => pts_nil) (fun _ _ _ _ _ => pe_tup (pa_cons (pv 2) (pa_cons (pv 3) pa_nil))))))))
      (pss_one (ps_ret (pv 1))))), ?_⟩
    refine ⟨(by show 0 ≤ sizeLine; decide), fun L0 nL0 => ?_⟩
    have en : ((d + 1 : Nat) : Int).toNat = d + 1 := by omega
    refine ⟨_, rfl, _, rfl, by omega, by omega, for_range (lo := 0) (n := ((d + 1 : Nat) : Int).toNat) (fun i σ Hc => ∃ (v2 v3 : Option V) (L : Addr) (M : List (Addr × Nat × Nat)), σ = [some (.int ((d + 1 : Nat) : Int)), some (.ref L), v2, v3] ∧ H L = none ∧ Hc L = some (.lst (M.map fun e => V.ref e.1)) ∧ M.map (·.2) = twosOf (d + 1) ((List.range (d + 1)).take i) ∧ (∀ e ∈ M, Hc e.1 = some (.tup [.int (e.2.1 : Nat), .int (e.2.2 : Nat)])) ∧ Same H Hc)
      ⟨none, none, L0, [], rfl, nL0, upd_same, rfl, (fun e he => nomatch he), same_new nL0⟩ ?_ ?_⟩
    · rintro i σ Hc hi ⟨v2, v3, L, M, rfl, nL, hL, eM, hM, sc⟩
      rw [en] at hi
      have ei : (List.range (d + 1))[i]? = some i := by rw [List.getElem?_range hi]
      refine ⟨_, rfl, _, rfl, _, rfl, _, _, rfl, ⟨by omega, by omega, by omega, by omega⟩, fun D hD => ?_⟩
      have en2 : (((d + 1 : Nat) : Int) - (0 + (i : Int))).toNat = d + 1 - i := by omega
      rw [en2]
      refine lc_range (lo := 0 + (i : Int)) (n := d + 1 - i) (fun c Hy => Built2 D Hc (((List.range (d + 1 - i)).take c).map fun c => (i, i + c)) Hy) (Built2.first hD) ?_ ?_
      · rintro c Hy hc hB
        have ec : (List.range (d + 1 - i))[c]? = some c := by rw [List.getElem?_range hc]
        refine ⟨rfl, ?_⟩
        refine ⟨_, rfl, _, rfl, (by show 2 ≤ sizeLine; decide), fun t nt => ?_⟩
        have e1 : (0 + (i : Int)) = ((i : Nat) : Int) := by omega
        have e2 : (0 + (i : Int) + (c : Int)) = ((i + c : Nat) : Int) := by omega
        obtain ⟨acc, b1, b2, b3⟩ := hB.more hD (H' := upd Hy t (.tup [V.int (0 + (i : Int)), V.int (0 + (i : Int) + (c : Int))])) (same_new nt) (t := t) (r := (i, i + c)) (by
          show _ = some (HO.tup [V.int ((i : Nat) : Int), V.int ((i + c : Nat) : Int)])
          rw [upd_same, e2, e1])
        refine ⟨acc, b1, by rw [b2, List.length_map, List.length_take, sizeLine_eq]; omega, ?_⟩
        rw [List.take_add_one, ec, List.map_append]
        exact b3
      · rintro Hy ⟨W, q1, q2, q3, q4⟩
        have l2 : (List.range (d + 1 - i)).take (d + 1 - i) = List.range (d + 1 - i) := List.take_of_length_le (by rw [List.length_range]; exact Nat.le_refl _)
        rw [l2] at q2
        have lM : M.length ≤ 16 := by
          have := congrArg List.length eM
          rw [List.length_map] at this
          have h1 := twosOf_len (d + 1) ((List.range (d + 1)).take i)
          have h2 : ((List.range (d + 1)).take i).length * (d + 1) ≤ 4 * 4 := Nat.mul_le_mul (by rw [List.length_take, List.length_range]; omega) (by omega)
          omega
        have lW : W.length ≤ 4 := by
          have := congrArg List.length q2
          rw [List.length_map, List.length_map, List.length_range] at this
          omega
        refine ⟨L, D, _, _, rfl, rfl, q4 _ _ hL, q1, by rw [List.length_map, List.length_map, sizeLine_eq]; omega, fun p np => ?_⟩
        rw [← List.map_append]
        have sp := same_new (o := .lst ((M ++ W).map fun e => V.ref e.1)) np
        have sHp : Same H (upd Hy p (.lst ((M ++ W).map fun e => V.ref e.1))) := fun b o z => sp _ _ (q4 _ _ (sc _ _ z))
        refine ⟨_, _, p, M ++ W, rfl, none_back (fun b o z => q4 _ _ (sc _ _ z)) np, upd_same, ?_, fun e he => ?_, sHp⟩
        · rw [List.map_append, eM, q2, twosOf, twosOf, take_flat _ _ ei]
        · rcases List.mem_append.mp he with he | he
          · exact sp _ _ (q4 _ _ (hM e he))
          · exact sp _ _ (q3 e he).2
    · rintro σ Hc ⟨v2, v3, L, M, rfl, nL, hL, eM, hM, sc⟩
      rw [en] at eM
      have ll : (List.range (d + 1)).take (d + 1) = List.range (d + 1) := List.take_of_length_le (by rw [List.length_range]; exact Nat.le_refl _)
      rw [ll] at eM
      exact ⟨_, rfl, k L M Hc nL hL eM hM sc⟩
end
end Yt

set_option Elab.async false
set_option linter.all false
set_option maxRecDepth 100000
set_option maxHeartbeats 2000000
namespace Yt
open PySem PySem.Spec PyProof.Rows L2
abbrev sLPairRows : Stmt := top 50
theorem at_get {r : List Str} {i : Nat} (h : i < r.length) : r[i]? = some (at_ r i) := by
  unfold at_
  rw [List.getD_eq_getElem?_getD, List.getElem?_eq_getElem h]
  rfl
section
variable {P : Program} {w : World} {K : PySem.W.Frag} {mg : Str → Option Value} {base : Heap} {f : Addr} {fd : FuncData}
theorem scLPairRows : FnScope ["_law_rows", "_law_one", "_law_other", "_law_row_here"] ["_law_rows", "_law_one", "_law_other"] (defScope sLPairRows) := ⟨rfl, rfl, rfl, by decide +kernel, rfl, by decide +kernel, by decide +kernel⟩
def spLPairRows : Sp := fun vs H Q _ => ∃ (l : Addr) (i j d : Nat) (M : List (Addr × List Str)), vs = [.ref l, .int (i : Nat), .int (j : Nat)] ∧ RowsAt H l M ∧ (∀ e ∈ M, e.2.length = d + 1) ∧ i < d + 1 ∧ j < d + 1 ∧ M.length ≤ 100 ∧
  ∀ (L : Addr) (N : List (Addr × List Str)) (H' : Hp), H L = none → H' L = some (.lst (N.map fun e => V.ref e.1)) → RowsIn H' 1 N → (∀ x, x ∈ N.map (·.2) ↔ x ∈ (M.map (·.2)).map (two i j)) → Up (N.map (·.2)) → Same H H' → Q (.ref L) H'
theorem ok_lpairrows (F : FnP K "_law_pair_rows" sLPairRows f fd) (T6 : Nm6 mg) (hso : mg "sorted" = none) : FnOk P w K mg base CX0 1 f fd ["_law_rows", "_law_one", "_law_other"] spLPairRows := by
  refine F.ok scLPairRows (fun vs H Q E h => ?_) (fun cdv A outer s H vs Q E hr h => ?_)
  · obtain ⟨l, i, j, d, M, rfl, _⟩ := h
    rfl
  · obtain ⟨l, i, j, d, M, rfl, hl, len, id, jd, m100, k⟩ := h
    have hu4 := units4 hr
    refine ⟨_, PSs.nox (pss_one (ps_ret (pe_callB (cr_sortDict rfl hu4) (by rfl) hso (by decide +kernel) (pa_cons (pe_callTy (call_dictPT rfl (units_le hu4 (by decide))) (by rfl) T6.dict (by decide +kernel) (pa_cons
      (pe_lc (own := [("_law_row_here", 3)]) (g := gName 3) (tt := tYes) (te := tTup (tCons (tTup (tCons (tOp (rIxT K) (tVar 3) (tVar 1)) (tCons (tOp (rIxT K) (tVar 3) (tVar 2)) tNil))) (tCons (tC (.bl true)) tNil))) rfl scLPairRows.nd (pi_list (pv 0)) (blkOk_by (own := [("_law_row_here", 3)]) (N := ["_law_rows", "_law_one", "_law_other", "_law_row_here"]) (sc := defScope sLPairRows) (by decide +kernel))
        (fun _ _ _ _ _ => pg_name (i := 3) scLPairRows.nd rfl (Or.inl rfl)) (fun _ _ _ _ _ => pts_nil)
        (fun _ _ _ _ _ => pe_tup (pa_cons (pe_tup (pa_cons (pe_ix ix_tup (pv 3) (pv 1) (fun _ _ => rfl)) (pa_cons (pe_ix ix_tup (pv 3) (pv 2) (fun _ _ => rfl)) pa_nil))) (pa_cons pe_bl pa_nil)))) pa_nil)) pa_nil)))), ?_⟩
    refine ⟨_, rfl, l, rfl, ⟨_, SqL.of hl.1⟩, fun D hD => ?_⟩
    have l1 : (M.map fun e => V.ref e.1).length = (M.map (·.2)).length := by rw [List.length_map, List.length_map]
    refine lc_list (K := K) (a := l) (xs := M.map fun e => V.ref e.1) (fun n Hx => ∃ W : List (Addr × Addr × List Str), W.map (fun e => e.2.2) = ((M.map (·.2)).take n).map (two i j) ∧ Hx D = some (.lst (W.map fun e => V.ref e.1)) ∧ (∀ e ∈ W, (e.1 ≠ D ∧ Hx e.1 = some (.tup [.ref e.2.1, .bl true])) ∧ e.2.1 ≠ D ∧ Hx e.2.1 = some (.tup (e.2.2.map V.str))) ∧ Same H Hx)
      ⟨[], rfl, upd_same, (fun e he => nomatch he), same_new hD⟩ (fun n Hx _ ⟨_, _, _, _, z⟩ => SqL.of (z _ _ hl.1)) ?_ ?_
    · rintro n x Hx ex ⟨W, hW, hDW, hWs, sx⟩
      rw [List.getElem?_map] at ex
      obtain ⟨u, hu, rfl⟩ := Option.map_eq_some_iff.mp ex
      have um := List.mem_of_getElem? hu
      have er : (M.map (·.2))[n]? = some u.2 := by rw [List.getElem?_map, hu] <;> rfl
      have n100 : n < 100 := by
        have := (List.getElem?_eq_some_iff.mp hu).1
        omega
      have lu := len u um
      have hu1 := sx _ _ (hl.2 u um)
      have lW : W.length ≤ 100 := by
        have := congrArg List.length hW
        rw [List.length_map, List.length_map, List.length_take] at this
        omega
      refine ⟨rfl, ?_⟩
      refine ⟨_, rfl, _, rfl, u.1, u.2.map V.str, _, V.str (at_ u.2 i), rfl, rfl, SqT.of hu1, atI_nat (by rw [List.getElem?_map, at_get (by omega)] <;> rfl), _, rfl, _, rfl, u.1, u.2.map V.str, _, V.str (at_ u.2 j), rfl, rfl, SqT.of hu1, atI_nat (by rw [List.getElem?_map, at_get (by omega)] <;> rfl), (by show 2 ≤ sizeLine; decide), fun t nt => ?_⟩
      have st := same_new (o := .tup [V.str (at_ u.2 i), V.str (at_ u.2 j)]) nt
      refine ⟨by show 2 ≤ sizeLine; decide, fun q nq => ?_⟩
      have sq := same_new (o := .tup [V.ref t, V.bl true]) nq
      have hD2 := sq _ _ (st _ _ hDW)
      have tD : t ≠ D := fun z => by
        rw [z, hDW] at nt
        cases nt
      have qD : q ≠ D := fun z => by
        rw [z, st _ _ hDW] at nq
        cases nq
      refine ⟨_, hD2, by rw [List.length_map, sizeLine_eq]; omega, W ++ [(q, t, two i j u.2)], ?_, by rw [upd_same, List.map_append]; rfl, fun e he => ?_, fun b o z => (upd_ne (ne_of_none z hD)).trans (sq _ _ (st _ _ (sx _ _ z)))⟩
      · rw [List.map_append, hW, List.take_add_one, er, List.map_append]
        rfl
      · rcases List.mem_append.mp he with he | he
        · obtain ⟨⟨a1, a2⟩, b1, b2⟩ := hWs e he
          exact ⟨⟨a1, (upd_ne a1).trans (sq _ _ (st _ _ a2))⟩, b1, (upd_ne b1).trans (sq _ _ (st _ _ b2))⟩
        · rw [List.mem_singleton.mp he]
          exact ⟨⟨qD, (upd_ne qD).trans upd_same⟩, tD, (upd_ne tD).trans (sq _ _ upd_same)⟩
    · rintro Hx ⟨W, hW, hDW, hWs, sx⟩
      rw [l1, List.take_length] at hW
      have lW : W.length ≤ 100 := by
        have := congrArg List.length hW
        rw [List.length_map, List.length_map, List.length_map] at this
        omega
      refine ⟨D, W.map (·.1), W.map fun e => (e.2.1, kR e.2.2, V.bl true), rfl, SqL.of (by rw [List.map_map]; exact hDW), paired_maps fun e he => ⟨SqT.of (hWs e he).1.2, ?_⟩, fun q nq => ?_⟩
      · show Hx e.2.1 = some (.tup ((kR e.2.2).map kV))
        rw [kR_V]
        exact (hWs e he).2.2
      have sq := same_new (o := .dT (mergeT [] ((W.map fun e => (e.2.1, kR e.2.2, V.bl true)).map (·.2)))) nq
      obtain ⟨nd, mk⟩ := merge_keys ((W.map fun e => (e.2.1, kR e.2.2, V.bl true)).map (·.2)) [] List.nodup_nil
      have len4 : (mergeT [] ((W.map fun e => (e.2.1, kR e.2.2, V.bl true)).map (·.2))).length ≤ 100 := by
        have := mergeT_len ((W.map fun e => (e.2.1, kR e.2.2, V.bl true)).map (·.2)) []
        rw [List.length_map, List.length_map] at this
        simp only [List.length_nil] at this
        omega
      have from_ : ∀ k, k ∈ (mergeT [] ((W.map fun e => (e.2.1, kR e.2.2, V.bl true)).map (·.2))).map (·.1) ↔ ∃ x ∈ (M.map (·.2)).map (two i j), k = kR x := fun k => by
        rw [mk k, ← hW]
        constructor
        · rintro (z | z)
          · cases z
          · rw [List.map_map, List.map_map] at z
            obtain ⟨e, he, rfl⟩ := List.mem_map.mp z
            exact ⟨e.2.2, List.mem_map.mpr ⟨e, he, rfl⟩, rfl⟩
        · rintro ⟨x, hx, rfl⟩
          obtain ⟨e, he, rfl⟩ := List.mem_map.mp hx
          refine .inr ?_
          rw [List.map_map, List.map_map]
          exact List.mem_map.mpr ⟨e, he, rfl⟩
      refine ⟨q, _, 1, rfl, upd_same, nd, by omega, fun e he => ?_, fun M2 eM RM => ?_⟩
      · obtain ⟨x, hx, er⟩ := (from_ e.1).mp (List.mem_map.mpr ⟨e, he, rfl⟩)
        obtain ⟨r, hr, rfl⟩ := List.mem_map.mp hx
        exact ⟨_, er, rfl⟩
      intro M' L pm up nL
      have sL := same_new (o := .lst (M'.map fun e => V.ref e.1)) nL
      have s0 : Same H _ := fun b o z => sq _ _ (sx _ _ z)
      refine k L M' _ (none_back s0 nL) upd_same ((RM.perm pm).to sL) (fun x => ?_) up fun b o z => sL _ _ (sq _ _ (sx _ _ z))
      rw [(pm.map (·.2)).mem_iff]
      have fk := from_ (kR x)
      rw [← eM] at fk
      constructor
      · intro hx
        obtain ⟨e, he, rfl⟩ := List.mem_map.mp hx
        obtain ⟨y, hy, ey⟩ := fk.mp (List.mem_map.mpr ⟨e, he, rfl⟩)
        rw [kR_inj ey]
        exact hy
      · intro hx
        obtain ⟨e, he, ee⟩ := List.mem_map.mp (fk.mpr ⟨x, hx, rfl⟩)
        exact List.mem_map.mpr ⟨e, he, kR_inj ee⟩
end
end Yt

set_option Elab.async false
set_option linter.all false
set_option maxRecDepth 100000
set_option maxHeartbeats 2000000
namespace Yt
open PySem PySem.Spec PyProof.Rows L2
abbrev sCheckPair : Stmt := top 19
abbrev sCheckKind : Stmt := top 21
abbrev sLike : Stmt := top 25
abbrev sCut : Stmt := top 26
abbrev sLies : Stmt := top 27
theorem table_81 {C : Addr} {H : Hp} {p : Addr} {ms : List Str} {d : Nat} {rs : List (List Str)} (T : TableAt C H p ms d rs) (o : Over ms rs) (few : ms.length ≤ 3) (d3 : d ≤ 3) : rs.length ≤ 81 :=
  Nat.le_trans (table_few T o few) (Nat.le_trans (Nat.pow_le_pow_right (by decide) (show d + 1 ≤ 4 by omega)) (by decide))
section
variable {P : Program} {w : World} {K : PySem.W.Frag} {mg : Str → Option Value} {base : Heap} {f : Addr} {fd : FuncData} {C : Addr}
theorem scCheckPair : FnScope ["table"] ["table"] (defScope sCheckPair) := ⟨rfl, rfl, rfl, by decide +kernel, rfl, by decide +kernel, by decide +kernel⟩
abbrev PairArg (C : Addr) : Hp → List V → Prop := fun H vs => ∃ (p : Addr) (ms : List Str) (rs : List (List Str)), vs = [.ref p] ∧ TableAt C H p ms 1 rs
theorem ok_checkpair {fT : Addr} {dT : FuncData} (F : FnP K "check_pair_table" sCheckPair f fd) (TM : TM P w K mg base C)
    (GT : FnOk P w K mg base CX0 1 fT dT ["table"] (spNon (TableArg C))) (bT : Binds K dT ["table"] []) (kT : PySem.W.keepIn K (.ref fT) = true) (gT : mg "check_table" = some (.ref fT)) :
    FnOk P w K mg base CX0 2 f fd ["table"] (spNon (PairArg C)) := by
  obtain ⟨fW, dW, GW, bW, mW⟩ := TM.width
  have TT := TM.tc
  refine F.ok scCheckPair (fun vs H Q E h => ?_) (fun cdv A outer s H vs Q E hr h => ?_)
  · obtain ⟨⟨p, ms, rs, rfl, _⟩, _⟩ := h
    rfl
  · obtain ⟨⟨p, ms, rs, rfl, T1⟩, k⟩ := h
    refine ⟨_, PSs.nox (pss_cons (ps_expr (pe_call GT (hr.mono (by decide)) rfl gT kT bT .nil pass0 (pa_cons (pv 0) pa_nil)))
      (pss_one (ps_if (pt_cmpR op_ne (pe_meth0 (pv 0) TT.cl mW GW (hr.mono (by decide)) bW .nil pass0) pe_int (nomark _)) (pss_one ps_never) pss_nil))), ?_⟩
    refine ⟨_, rfl, ⟨p, ms, 1, rs, rfl, T1⟩, fun H1 s1 => ?_⟩
    obtain ⟨dx, A1, R, M, h1, _⟩ := id (T1.to s1)
    exact ⟨_, rfl, p, dx, _, rfl, h1, no_attr (by decide +kernel), p, ms, 1, rs, rfl, T1.to s1, rfl, false, rfl, iteF (k H1 s1)⟩
theorem scCheckKind : FnScope ["one", "other"] ["one", "other"] (defScope sCheckKind) := ⟨rfl, rfl, rfl, by decide +kernel, rfl, by decide +kernel, by decide +kernel⟩
abbrev KindArg (C : Addr) : Hp → List V → Prop := fun H vs => ∃ (p q : Addr) (ms : List Str) (d : Nat) (rs us : List (List Str)), vs = [.ref p, .ref q] ∧ TableAt C H p ms d rs ∧ TableAt C H q ms d us ∧ MarksOk ms
theorem ok_checkkind {fT fS : Addr} {dT dS : FuncData} (F : FnP K "check_same_kind" sCheckKind f fd) (TM : TM P w K mg base C)
    (GT : FnOk P w K mg base CX0 1 fT dT ["table"] (spNon (TableArg C))) (bT : Binds K dT ["table"] []) (kT : PySem.W.keepIn K (.ref fT) = true) (gT : mg "check_table" = some (.ref fT))
    (GS : FnOk P w K mg base CX0 2 fS dS ["one", "other"] (spNon (SameArg C))) (bS : Binds K dS ["one", "other"] []) (kS : PySem.W.keepIn K (.ref fS) = true) (gS : mg "check_same_marks" = some (.ref fS)) :
    FnOk P w K mg base CX0 3 f fd ["one", "other"] (spNon (KindArg C)) := by
  obtain ⟨fW, dW, GW, bW, mW⟩ := TM.width
  have TT := TM.tc
  refine F.ok scCheckKind (fun vs H Q E h => ?_) (fun cdv A outer s H vs Q E hr h => ?_)
  · obtain ⟨⟨p, q, ms, d, rs, us, rfl, _⟩, _⟩ := h
    rfl
  · obtain ⟨⟨p, q, ms, d, rs, us, rfl, T1, T2, ok⟩, k⟩ := h
    refine ⟨_, PSs.nox (pss_cons (ps_expr (pe_call GT (hr.mono (by decide)) rfl gT kT bT .nil pass0 (pa_cons (pv 0) pa_nil)))
      (pss_cons (ps_expr (pe_call GT (hr.mono (by decide)) rfl gT kT bT .nil pass0 (pa_cons (pv 1) pa_nil)))
      (pss_cons (ps_expr (pe_call GS (hr.mono (by decide)) rfl gS kS bS .nil pass0 (pa_cons (pv 0) (pa_cons (pv 1) pa_nil))))
      (pss_one (ps_if (pt_cmpR op_ne (pe_meth0 (pv 0) TT.cl mW GW (hr.mono (by decide)) bW .nil pass0) (pe_meth0 (pv 1) TT.cl mW GW (hr.mono (by decide)) bW .nil pass0) (nomark _)) (pss_one ps_never) pss_nil))))), ?_⟩
    refine ⟨_, rfl, ⟨p, ms, d, rs, rfl, T1⟩, fun H1 s1 => ?_⟩
    refine ⟨_, rfl, ⟨q, ms, d, us, rfl, T2.to s1⟩, fun H2 s2 => ?_⟩
    have s02 : Same H H2 := fun b o z => s2 _ _ (s1 _ _ z)
    refine ⟨_, rfl, _, rfl, ⟨p, q, ms, d, d, rs, us, rfl, T1.to s02, T2.to s02, ok⟩, fun H3 s3 => ?_⟩
    have s03 : Same H H3 := fun b o z => s3 _ _ (s02 _ _ z)
    obtain ⟨dx, A1, R, M, h1, _⟩ := id (T1.to s03)
    obtain ⟨dy, B1, S, N, g1, _⟩ := id (T2.to s03)
    refine ⟨_, rfl, p, dx, _, rfl, h1, no_attr (by decide +kernel), p, ms, d, rs, rfl, T1.to s03, _, rfl, q, dy, _, rfl, g1, no_attr (by decide +kernel), q, ms, d, us, rfl, T2.to s03, rfl, false, ?_, iteF (k H3 s03)⟩
    rw [decide_eq_true rfl]
    rfl
theorem scLike : FnScope ["marks", "mark"] ["marks"] (defScope sLike) := ⟨rfl, rfl, rfl, by decide +kernel, rfl, by decide +kernel, by decide +kernel⟩
def spLike (C : Addr) : Sp := fun vs H Q _ => ∃ (a : Addr) (ms : List Str), vs = [.ref a] ∧ H a = some (.lst (ms.map V.str)) ∧ MarksOk ms ∧ ms.length ≤ 3 ∧
  ∀ (p : Addr) (H' : Hp) (rs : List (List Str)), H p = none → (∀ r, r ∈ rs ↔ r ∈ ms.map fun m => [m, m]) → TableAt C H' p ms 1 rs → Same H H' → Q (.ref p) H'
theorem ok_like {fC : Addr} {dC : FuncData} (F : FnP K "like" sLike f fd) (TM : TM P w K mg base C)
    (GC : FnOk P w K mg base CX0 3 fC dC ["marks"] (spNon fun H vs => ∃ a ms, vs = [.ref a] ∧ H a = some (.lst (ms.map V.str)) ∧ MarksOk ms)) (bC : Binds K dC ["marks"] []) (kC : PySem.W.keepIn K (.ref fC) = true) (gC : mg "check_marks" = some (.ref fC)) :
    FnOk P w K mg base CX0 6 f fd ["marks"] (spLike C) := by
  obtain ⟨fI, dI, GI, bI, mk⟩ := TM.ini
  have TT := TM.tc
  refine F.ok scLike (fun vs H Q E h => ?_) (fun cdv A outer s H vs Q E hr h => ?_)
  · obtain ⟨a, ms, rfl, _⟩ := h
    rfl
  · obtain ⟨a, ms, rfl, ha, ok, few, k⟩ := h
    refine ⟨_, PSs.nox (pss_cons (ps_expr (pe_call GC (hr.mono (by decide)) rfl gC kC bC .nil pass0 (pa_cons (pv 0) pa_nil)))
      (pss_one (ps_ret (pe_make mk GI (hr.mono (by decide)) rfl TT.mgC bI .nil pass0 (pa_cons (pv 0) (pa_cons pe_int (pa_cons
        (pe_lc (own := [("mark", 1)]) (g := gName 1) (tt := tYes) (te := tTup (tCons (tVar 1) (tCons (tVar 1) tNil))) rfl scLike.nd (pi_list (pv 0)) (blkOk_by (own := [("mark", 1)]) (N := ["marks", "mark"]) (sc := defScope sLike) (by decide +kernel))
          (fun _ _ _ _ _ => pg_name (i := 1) scLike.nd rfl (Or.inl rfl)) (fun _ _ _ _ _ => pts_nil) (fun _ _ _ _ _ => pe_tup (pa_cons (pv 1) (pa_cons (pv 1) pa_nil)))) pa_nil))))))), ?_⟩
    refine ⟨_, rfl, ⟨a, ms, rfl, ha, ok⟩, fun H1 s1 => ?_⟩
    refine ⟨_, rfl, _, rfl, a, rfl, ⟨_, SqL.of (s1 _ _ ha)⟩, fun D hD => ?_⟩
    refine lc_list (K := K) (a := a) (xs := ms.map V.str) (fun j Hx => Built D H1 ((ms.take j).map fun m => [m, m]) Hx) (Built.first hD) (fun j Hx _ ⟨_, _, _, _, z⟩ => SqL.of (z _ _ (s1 _ _ ha))) ?_ ?_
    · rintro j v Hy ey hB
      rw [List.getElem?_map] at ey
      obtain ⟨m, em, rfl⟩ := Option.map_eq_some_iff.mp ey
      have j3 : j < 3 := by
        have := (List.getElem?_eq_some_iff.mp em).1
        omega
      refine ⟨rfl, ?_⟩
      refine ⟨_, rfl, _, rfl, (by show 2 ≤ sizeLine; decide), fun t nt => ?_⟩
      obtain ⟨acc, b1, b2, b3⟩ := hB.more hD (same_new (o := .tup [V.str m, V.str m]) nt) (t := t) (r := [m, m]) upd_same
      refine ⟨acc, b1, by rw [b2, List.length_map, List.length_take, sizeLine_eq]; omega, ?_⟩
      rw [List.take_add_one, em, List.map_append]
      exact b3
    · rintro Hx ⟨W, q1, q2, q3, q4⟩
      rw [List.length_map, List.take_length] at q2
      have lW : W.length ≤ 3 := by
        have := congrArg List.length q2
        rw [List.length_map, List.length_map] at this
        omega
      have inW : ∀ e ∈ W, ∃ m ∈ ms, e.2 = [m, m] := fun e he => by
        have : e.2 ∈ ms.map fun m => [m, m] := by
          rw [← q2]
          exact List.mem_map.mpr ⟨e, he, rfl⟩
        obtain ⟨m, hm, e1⟩ := List.mem_map.mp this
        exact ⟨m, hm, e1.symm⟩
      refine make_table (d := 1) (q4 _ _ (s1 _ _ ha)) ok (by decide) q1 ⟨fun e he => (q3 e he).2, fun e he => ?_, by omega⟩ (fun e he z hz => ?_) fun p H4 rs np mem T1 s4 => ?_
      · obtain ⟨m, _, e1⟩ := inW e he
        rw [e1]
        rfl
      · obtain ⟨m, hm, e1⟩ := inW e he
        rw [e1] at hz
        simp only [List.mem_cons, List.not_mem_nil, or_false, or_self] at hz
        rw [hz]
        exact hm
      · exact k p H4 rs (none_back (fun b o z => q4 _ _ (s1 _ _ z)) np) (fun r => by rw [mem, q2]) T1 fun b o z => s4 _ _ (q4 _ _ (s1 _ _ z))
def inBoth (us rs : List (List Str)) : List (List Str) := rs.filter fun r => decide (r ∈ us)
theorem inBoth_step {us rs : List (List Str)} {j : Nat} {r : List Str} (e : rs[j]? = some r) : inBoth us (rs.take (j + 1)) = inBoth us (rs.take j) ++ (if r ∈ us then [r] else []) := by
  unfold inBoth
  rw [List.take_add_one, e, List.filter_append]
  show _ ++ List.filter _ [r] = _
  by_cases c : r ∈ us
  · rw [if_pos c, List.filter_cons_of_pos (by simp [c])] <;> rfl
  · rw [if_neg c, List.filter_cons_of_neg (by simp [c])] <;> rfl
theorem inBoth_mem {us rs : List (List Str)} {r : List Str} : r ∈ inBoth us rs ↔ r ∈ rs ∧ r ∈ us := by
  unfold inBoth
  rw [List.mem_filter, decide_eq_true_iff]
theorem scCut : FnScope ["one", "other", "others", "row"] ["one", "other"] (defScope sCut) := ⟨rfl, rfl, rfl, by decide +kernel, rfl, by decide +kernel, by decide +kernel⟩
def spCut (C : Addr) : Sp := fun vs H Q _ => ∃ (p q : Addr) (ms : List Str) (d : Nat) (rs us : List (List Str)), vs = [.ref p, .ref q] ∧ TableAt C H p ms d rs ∧ TableAt C H q ms d us ∧ MarksOk ms ∧ ms.length ≤ 3 ∧ d ≤ 3 ∧ Over ms rs ∧
  ∀ (x : Addr) (H' : Hp) (ws : List (List Str)), H x = none → (∀ r, r ∈ ws ↔ r ∈ rs ∧ r ∈ us) → TableAt C H' x ms d ws → Same H H' → Q (.ref x) H'
theorem ok_cut {fS : Addr} {dS : FuncData} (F : FnP K "cut" sCut f fd) (TM : TM P w K mg base C)
    (GS : FnOk P w K mg base CX0 3 fS dS ["one", "other"] (spNon (KindArg C))) (bS : Binds K dS ["one", "other"] []) (kS : PySem.W.keepIn K (.ref fS) = true) (gS : mg "check_same_kind" = some (.ref fS)) :
    FnOk P w K mg base CX0 6 f fd ["one", "other"] (spCut C) := by
  obtain ⟨fI, dI, GI, bI, mk⟩ := TM.ini
  obtain ⟨fA, dA, GA, bA, mA⟩ := TM.marks
  obtain ⟨fW, dW, GW, bW, mW⟩ := TM.width
  obtain ⟨fR, dR, GR, bR, mR⟩ := TM.rows
  have TT := TM.tc
  refine F.ok scCut (fun vs H Q E h => ?_) (fun cdv A outer s H vs Q E hr h => ?_)
  · obtain ⟨p, q, ms, d, rs, us, rfl, _⟩ := h
    rfl
  · obtain ⟨p, q, ms, d, rs, us, rfl, T1, T2, ok, few, d3, o1, k⟩ := h
    have hu := hu_of hr
    refine ⟨_, PSs.nox (pss_cons (ps_expr (pe_call GS (hr.mono (by decide)) rfl gS kS bS .nil pass0 (pa_cons (pv 0) (pa_cons (pv 1) pa_nil))))
      (pss_cons (ps_set (i := 2) scCut.nd rfl (Or.inr rfl) (pe_meth0 (pv 1) TT.cl mR GR (hr.mono (by decide)) bR .nil pass0))
      (pss_one (ps_ret (pe_make mk GI (hr.mono (by decide)) rfl TT.mgC bI .nil pass0 (pa_cons (pe_meth0 (pv 0) TT.cl mA GA (hr.mono (by decide)) bA .nil pass0) (pa_cons (pe_meth0 (pv 0) TT.cl mW GW (hr.mono (by decide)) bW .nil pass0) (pa_cons
        (pe_lc (own := [("row", 3)]) (g := gName 3) (tt := tTest (tOp (rInRows K) (tVar 3) (tVar 2))) (te := tVar 3) rfl scCut.nd (pi_list (pe_meth0 (pv 0) TT.cl mR GR (hr.mono (by decide)) bR .nil pass0)) (blkOk_by (own := [("row", 3)]) (N := ["one", "other", "others", "row"]) (sc := defScope sCut) (by decide +kernel))
          (fun _ _ _ _ _ => pg_name (i := 3) scCut.nd rfl (Or.inl rfl)) (fun _ _ _ _ _ => pts_one (pt_cmpR (op_in_rows hu) (pv 3) (pv 2) (by rfl))) (fun _ _ _ _ _ => pv 3)) pa_nil)))))))), ?_⟩
    refine ⟨_, rfl, _, rfl, ⟨p, q, ms, d, rs, us, rfl, T1, T2, ok⟩, fun H1 s1 => ?_⟩
    obtain ⟨dy, B1, S, N0, g1, _⟩ := id (T2.to s1)
    refine ⟨_, rfl, q, dy, _, rfl, g1, no_attr (by decide +kernel), q, ms, d, us, rfl, T2.to s1, fun L2 M2 H2 nL2 hL2 R2 e2 s2 => ?_⟩
    have s02 : Same H H2 := fun b o z => s2 _ _ (s1 _ _ z)
    obtain ⟨dx, A1, R, M0, h1, _⟩ := id (T1.to s02)
    refine ⟨_, rfl, p, dx, _, rfl, h1, no_attr (by decide +kernel), p, ms, d, rs, rfl, T1.to s02, fun A3 H3 nA3 hA3 s3 => ?_⟩
    have s03 : Same H H3 := fun b o z => s3 _ _ (s02 _ _ z)
    refine ⟨_, rfl, p, dx, _, rfl, s3 _ _ h1, no_attr (by decide +kernel), p, ms, d, rs, rfl, T1.to s03, ?_⟩
    refine ⟨_, rfl, p, dx, _, rfl, s3 _ _ h1, no_attr (by decide +kernel), p, ms, d, rs, rfl, T1.to s03, fun L4 M4 H4 nL4 hL4 R4 e4 s4 => ?_⟩
    have s04 : Same H H4 := fun b o z => s4 _ _ (s03 _ _ z)
    have s14 : Same H1 H4 := fun b o z => s4 _ _ (s3 _ _ (s2 _ _ z))
    have hL24 := s4 _ _ (s3 _ _ hL2)
    have R24 := R2.to s14
    have lM : (M4.map fun e => V.ref e.1).length = rs.length := by rw [← e4, List.length_map, List.length_map]
    have l81 := table_81 T1 o1 few d3
    refine ⟨L4, rfl, ⟨_, SqL.of hL4⟩, fun D hD => ?_⟩
    refine lc_list (K := K) (a := L4) (xs := M4.map fun e => V.ref e.1) (fun j Hx => Built D H4 (inBoth us (rs.take j)) Hx) (Built.first hD) (fun j Hx _ ⟨_, _, _, _, z⟩ => SqL.of (z _ _ hL4)) ?_ ?_
    · rintro j v Hy ey hB
      rw [List.getElem?_map] at ey
      obtain ⟨u, hu, rfl⟩ := Option.map_eq_some_iff.mp ey
      have um := List.mem_of_getElem? hu
      have er : rs[j]? = some u.2 := by rw [← e4, List.getElem?_map, hu] <;> rfl
      obtain ⟨_, _, _, _, sy⟩ := id hB
      have hu5 := sy _ _ (s4 _ _ (R4.at_ u um))
      have ef := inBoth_step (us := us) er
      refine ⟨rfl, ?_⟩
      refine ⟨_, rfl, _, rfl, u.1, L2, u.2, M2, rfl, rfl, hu5, sy _ _ hL24, fun e he => sy _ _ (R24.at_ e he), _, rfl, ?_⟩
      rw [e2]
      by_cases c : u.2 ∈ us
      · rw [decide_eq_true c]
        rw [if_pos c] at ef
        refine iteT ?_
        obtain ⟨acc, b1, b2, b3⟩ := hB.more hD (fun _ _ z => z) hu5
        refine ⟨_, rfl, acc, b1, ?_, ?_⟩
        · rw [b2, sizeLine_eq]
          have := List.length_filter_le (fun r => decide (r ∈ us)) (rs.take j)
          rw [List.length_take] at this
          unfold inBoth
          omega
        · rw [ef]
          exact b3
      · rw [decide_eq_false c]
        rw [if_neg c, List.append_nil] at ef
        refine iteF ?_
        rw [ef]
        exact hB
    · rintro Hx ⟨W, q1, q2, q3, q4⟩
      rw [lM, List.take_length] at q2
      have inW : ∀ e ∈ W, e.2 ∈ rs := fun e he => (inBoth_mem.mp (by rw [← q2]; exact List.mem_map.mpr ⟨e, he, rfl⟩ : e.2 ∈ inBoth us rs)).1
      have lW : W.length ≤ 81 := by
        have := congrArg List.length q2
        rw [List.length_map] at this
        have h2 := List.length_filter_le (fun r => decide (r ∈ us)) rs
        unfold inBoth at this
        omega
      refine make_table (q4 _ _ (s4 _ _ hA3)) ok d3 q1 ⟨fun e he => (q3 e he).2, fun e he => T1.len _ (inW e he), by omega⟩ (fun e he => o1 _ (inW e he)) fun x H5 ws nx mw T5 s5 => ?_
      exact k x H5 ws (none_back (fun b o z => q4 _ _ (s04 _ _ z)) nx) (fun r => by rw [mw, q2, inBoth_mem]) T5 fun b o z => s5 _ _ (q4 _ _ (s04 _ _ z))
theorem scLies : FnScope ["one", "other", "others", "row"] ["one", "other"] (defScope sLies) := ⟨rfl, rfl, rfl, by decide +kernel, rfl, by decide +kernel, by decide +kernel⟩
def spLies (C : Addr) : Sp := fun vs H Q _ => ∃ (p q : Addr) (ms : List Str) (d : Nat) (rs us : List (List Str)), vs = [.ref p, .ref q] ∧ TableAt C H p ms d rs ∧ TableAt C H q ms d us ∧ MarksOk ms ∧ ms.length ≤ 3 ∧ d ≤ 3 ∧ Over ms rs ∧
  ∀ (b : Bool) (H' : Hp), (b = true ↔ ∀ r ∈ rs, r ∈ us) → Same H H' → Q (.bl b) H'
theorem ok_lies {fS : Addr} {dS : FuncData} (F : FnP K "lies_in" sLies f fd) (TM : TM P w K mg base C) (T6 : Nm6 mg)
    (GS : FnOk P w K mg base CX0 3 fS dS ["one", "other"] (spNon (KindArg C))) (bS : Binds K dS ["one", "other"] []) (kS : PySem.W.keepIn K (.ref fS) = true) (gS : mg "check_same_kind" = some (.ref fS)) :
    FnOk P w K mg base CX0 4 f fd ["one", "other"] (spLies C) := by
  obtain ⟨fR, dR, GR, bR, mR⟩ := TM.rows
  have TT := TM.tc
  refine F.ok scLies (fun vs H Q E h => ?_) (fun cdv A outer s H vs Q E hr h => ?_)
  · obtain ⟨p, q, ms, d, rs, us, rfl, _⟩ := h
    rfl
  · obtain ⟨p, q, ms, d, rs, us, rfl, T1, T2, ok, few, d3, o1, k⟩ := h
    have hu := hu_of hr
    refine ⟨_, PSs.nox (pss_cons (ps_expr (pe_call GS (hr.mono (by decide)) rfl gS kS bS .nil pass0 (pa_cons (pv 0) (pa_cons (pv 1) pa_nil))))
      (pss_cons (ps_set (i := 2) scLies.nd rfl (Or.inr rfl) (pe_meth0 (pv 1) TT.cl mR GR (hr.mono (by decide)) bR .nil pass0))
      (pss_one (ps_ret (pe_callB (cr_all rfl) (by rfl) T6.all (by decide +kernel) (pa_cons
        (pe_lc (own := [("row", 3)]) (g := gName 3) (tt := tYes) (te := tOp (rInRows K) (tVar 3) (tVar 2)) rfl scLies.nd (pi_list (pe_meth0 (pv 0) TT.cl mR GR (hr.mono (by decide)) bR .nil pass0)) (blkOk_by (own := [("row", 3)]) (N := ["one", "other", "others", "row"]) (sc := defScope sLies) (by decide +kernel))
          (fun _ _ _ _ _ => pg_name (i := 3) scLies.nd rfl (Or.inl rfl)) (fun _ _ _ _ _ => pts_nil) (fun _ _ _ _ _ => pe_cmpR (op_in_rows hu) (pv 3) (pv 2) (by rfl))) pa_nil)))))), ?_⟩
    refine ⟨_, rfl, _, rfl, ⟨p, q, ms, d, rs, us, rfl, T1, T2, ok⟩, fun H1 s1 => ?_⟩
    obtain ⟨dy, B1, S, N0, g1, _⟩ := id (T2.to s1)
    refine ⟨_, rfl, q, dy, _, rfl, g1, no_attr (by decide +kernel), q, ms, d, us, rfl, T2.to s1, fun L2 M2 H2 nL2 hL2 R2 e2 s2 => ?_⟩
    have s02 : Same H H2 := fun b o z => s2 _ _ (s1 _ _ z)
    obtain ⟨dx, A1, R, M0, h1, _⟩ := id (T1.to s02)
    refine ⟨_, rfl, p, dx, _, rfl, h1, no_attr (by decide +kernel), p, ms, d, rs, rfl, T1.to s02, fun L4 M4 H4 nL4 hL4 R4 e4 s4 => ?_⟩
    have s04 : Same H H4 := fun b o z => s4 _ _ (s02 _ _ z)
    have s14 : Same H1 H4 := fun b o z => s4 _ _ (s2 _ _ z)
    have hL24 := s4 _ _ hL2
    have R24 := R2.to s14
    have lM : (M4.map fun e => V.ref e.1).length = rs.length := by rw [← e4, List.length_map, List.length_map]
    have l81 := table_81 T1 o1 few d3
    refine ⟨L4, rfl, ⟨_, SqL.of hL4⟩, fun D hD => ?_⟩
    refine lc_list (K := K) (a := L4) (xs := M4.map fun e => V.ref e.1) (fun j Hx => Hx D = some (.lst (((rs.take j).map fun r => decide (r ∈ us)).map V.bl)) ∧ Same H4 Hx) ⟨upd_same, same_new hD⟩ (fun j Hx _ z => SqL.of (z.2 _ _ hL4)) ?_ ?_
    · rintro j v Hy ey ⟨q1, sy⟩
      rw [List.getElem?_map] at ey
      obtain ⟨u, hu, rfl⟩ := Option.map_eq_some_iff.mp ey
      have um := List.mem_of_getElem? hu
      have er : rs[j]? = some u.2 := by rw [← e4, List.getElem?_map, hu] <;> rfl
      have hu5 := sy _ _ (s4 _ _ (R4.at_ u um))
      refine ⟨rfl, ?_⟩
      refine ⟨_, rfl, _, rfl, u.1, L2, u.2, M2, rfl, rfl, hu5, sy _ _ hL24, fun e he => sy _ _ (R24.at_ e he), _, q1, ?_, ?_, fun b o z => (upd_ne (ne_of_none z hD)).trans (sy _ _ z)⟩
      · rw [List.length_map, List.length_map, List.length_take, sizeLine_eq]
        omega
      · rw [upd_same, List.take_add_one, er, e2, List.map_append, List.map_append]
        rfl
    · rintro Hx ⟨q1, q4⟩
      rw [lM, List.take_length] at q1
      refine ⟨D, _, rfl, SqL.of q1, ?_⟩
      refine k _ Hx ?_ fun b o z => q4 _ _ (s04 _ _ z)
      rw [List.all_map, List.all_eq_true]
      exact ⟨fun h r hr => of_decide_eq_true (h r hr), fun h r hr => decide_eq_true (h r hr)⟩
end
end Yt

set_option Elab.async false
set_option linter.all false
set_option maxRecDepth 100000
set_option maxHeartbeats 2000000
namespace Yt
open PySem PySem.Spec PyProof.Rows L2
abbrev sTurned : Stmt := top 31
abbrev sChained : Stmt := top 32
theorem row2 {r : List Str} (h : r.length = 2) : r = [at_ r 0, at_ r 1] := by
  match r, h with
  | [x, y], _ => rfl
theorem two_tup {H : Hp} {t : Addr} {r : List Str} (h : r.length = 2) (e : H t = some (.tup (r.map V.str))) : H t = some (.tup [V.str (at_ r 0), V.str (at_ r 1)]) := by
  rw [e, row2 h]
  rfl
def swap (r : List Str) : List Str := [at_ r 1, at_ r 0]
theorem swap_over {ms : List Str} {r : List Str} (h : r.length = 2) (o : ∀ z ∈ r, z ∈ ms) : ∀ z ∈ swap r, z ∈ ms := fun z hz => by
  simp only [swap, List.mem_cons, List.not_mem_nil, or_false] at hz
  rcases hz with rfl | rfl
  · exact o _ (List.mem_of_getElem? (at_get (by omega)))
  · exact o _ (List.mem_of_getElem? (at_get (by omega)))
/-- two rows that meet -/
def link (x y : List Str) : List Str := [at_ x 0, at_ y 1]
def chainOf (us : List (List Str)) (x : List Str) : List (List Str) := (us.filter fun y => decide (at_ x 1 = at_ y 0)).map (link x)
def chainL (rs us : List (List Str)) : List (List Str) := rs.flatMap (chainOf us)
theorem chainL_mem {rs us : List (List Str)} {r : List Str} : r ∈ chainL rs us ↔ ∃ x ∈ rs, ∃ y ∈ us, at_ x 1 = at_ y 0 ∧ r = link x y := by
  unfold chainL chainOf
  rw [List.mem_flatMap]
  constructor
  · rintro ⟨x, hx, h⟩
    obtain ⟨y, hy, rfl⟩ := List.mem_map.mp h
    obtain ⟨h1, h2⟩ := List.mem_filter.mp hy
    exact ⟨x, hx, y, h1, of_decide_eq_true h2, rfl⟩
  · rintro ⟨x, hx, y, hy, e, rfl⟩
    exact ⟨x, hx, List.mem_map.mpr ⟨y, List.mem_filter.mpr ⟨hy, decide_eq_true e⟩, rfl⟩⟩
theorem chainOf_step {us : List (List Str)} {x y : List Str} {l : Nat} (e : us[l]? = some y) : chainOf (us.take (l + 1)) x = chainOf (us.take l) x ++ (if at_ x 1 = at_ y 0 then [link x y] else []) := by
  unfold chainOf
  rw [List.take_add_one, e, List.filter_append, List.map_append]
  show _ ++ (List.filter _ [y]).map _ = _
  by_cases c : at_ x 1 = at_ y 0
  · rw [if_pos c, List.filter_cons_of_pos (by simp [c])] <;> rfl
  · rw [if_neg c, List.filter_cons_of_neg (by simp [c])] <;> rfl
theorem chainOf_len (us : List (List Str)) (x : List Str) : (chainOf us x).length ≤ us.length := by
  unfold chainOf
  rw [List.length_map]
  exact List.length_filter_le _ _
theorem chainL_len (rs us : List (List Str)) : (chainL rs us).length ≤ rs.length * us.length := by
  induction rs with
  | nil => simp [chainL]
  | cons x rs ih =>
    unfold chainL at ih ⊢
    rw [List.flatMap_cons, List.length_append, List.length_cons, Nat.add_mul, Nat.one_mul]
    have := chainOf_len us x
    omega
section
variable {P : Program} {w : World} {K : PySem.W.Frag} {mg : Str → Option Value} {base : Heap} {f : Addr} {fd : FuncData} {C : Addr}
theorem scTurned : FnScope ["table", "before", "after"] ["table"] (defScope sTurned) := ⟨rfl, rfl, rfl, by decide +kernel, rfl, by decide +kernel, by decide +kernel⟩
def spTurned (C : Addr) : Sp := fun vs H Q _ => ∃ (p : Addr) (ms : List Str) (rs : List (List Str)), vs = [.ref p] ∧ TableAt C H p ms 1 rs ∧ MarksOk ms ∧ ms.length ≤ 3 ∧ Over ms rs ∧
  ∀ (x : Addr) (H' : Hp) (ws : List (List Str)), H x = none → (∀ r, r ∈ ws ↔ r ∈ rs.map swap) → TableAt C H' x ms 1 ws → Same H H' → Q (.ref x) H'
theorem ok_turned {fT : Addr} {dT : FuncData} (F : FnP K "turned" sTurned f fd) (TM : TM P w K mg base C)
    (GT : FnOk P w K mg base CX0 2 fT dT ["table"] (spNon (PairArg C))) (bT : Binds K dT ["table"] []) (kT : PySem.W.keepIn K (.ref fT) = true) (gT : mg "check_pair_table" = some (.ref fT)) :
    FnOk P w K mg base CX0 6 f fd ["table"] (spTurned C) := by
  obtain ⟨fI, dI, GI, bI, mk⟩ := TM.ini
  obtain ⟨fA, dA, GA, bA, mA⟩ := TM.marks
  obtain ⟨fR, dR, GR, bR, mR⟩ := TM.rows
  have TT := TM.tc
  refine F.ok scTurned (fun vs H Q E h => ?_) (fun cdv A outer s H vs Q E hr h => ?_)
  · obtain ⟨p, ms, rs, rfl, _⟩ := h
    rfl
  · obtain ⟨p, ms, rs, rfl, T1, ok, few, o1, k⟩ := h
    refine ⟨_, PSs.nox (pss_cons (ps_expr (pe_call GT (hr.mono (by decide)) rfl gT kT bT .nil pass0 (pa_cons (pv 0) pa_nil)))
      (pss_one (ps_ret (pe_make mk GI (hr.mono (by decide)) rfl TT.mgC bI .nil pass0 (pa_cons (pe_meth0 (pv 0) TT.cl mA GA (hr.mono (by decide)) bA .nil pass0) (pa_cons pe_int (pa_cons
        (pe_lc (own := [("before", 1), ("after", 2)]) (g := gTup K 2 (gCons (gName 1) (gCons (gName 2) gNil))) (tt := tYes) (te := tTup (tCons (tVar 2) (tCons (tVar 1) tNil))) rfl scTurned.nd (pi_list (pe_meth0 (pv 0) TT.cl mR GR (hr.mono (by decide)) bR .nil pass0)) (blkOk_by (own := [("before", 1), ("after", 2)]) (N := ["table", "before", "after"]) (sc := defScope sTurned) (by decide +kernel))
          (fun _ _ _ _ _ => pg_tup rfl (pgs_cons (pg_name (i := 1) scTurned.nd rfl (Or.inl rfl)) (pgs_cons (pg_name (i := 2) scTurned.nd rfl (Or.inl rfl)) pgs_nil))) (fun _ _ _ _ _ => pts_nil) (fun _ _ _ _ _ => pe_tup (pa_cons (pv 2) (pa_cons (pv 1) pa_nil)))) pa_nil))))))), ?_⟩
    refine ⟨_, rfl, ⟨p, ms, rs, rfl, T1⟩, fun H1 s1 => ?_⟩
    obtain ⟨dx, A1, R, M0, h1, _⟩ := id (T1.to s1)
    refine ⟨_, rfl, p, dx, _, rfl, h1, no_attr (by decide +kernel), p, ms, 1, rs, rfl, T1.to s1, fun A3 H3 nA3 hA3 s3 => ?_⟩
    have s03 : Same H H3 := fun b o z => s3 _ _ (s1 _ _ z)
    refine ⟨_, rfl, p, dx, _, rfl, s3 _ _ h1, no_attr (by decide +kernel), p, ms, 1, rs, rfl, T1.to s03, fun L4 M4 H4 nL4 hL4 R4 e4 s4 => ?_⟩
    have s04 : Same H H4 := fun b o z => s4 _ _ (s03 _ _ z)
    have lM : (M4.map fun e => V.ref e.1).length = rs.length := by rw [← e4, List.length_map, List.length_map]
    have l81 := table_81 T1 o1 few (by decide)
    refine ⟨L4, rfl, ⟨_, SqL.of hL4⟩, fun D hD => ?_⟩
    refine lc_list (K := K) (a := L4) (xs := M4.map fun e => V.ref e.1) (fun j Hx => Built D H4 ((rs.take j).map swap) Hx) (Built.first hD) (fun j Hx _ ⟨_, _, _, _, z⟩ => SqL.of (z _ _ hL4)) ?_ ?_
    · rintro j v Hy ey hB
      rw [List.getElem?_map] at ey
      obtain ⟨u, hu, rfl⟩ := Option.map_eq_some_iff.mp ey
      have um := List.mem_of_getElem? hu
      have er : rs[j]? = some u.2 := by rw [← e4, List.getElem?_map, hu] <;> rfl
      have ul := T1.len u.2 (List.mem_of_getElem? er)
      obtain ⟨_, _, _, _, sy⟩ := id hB
      have hu5 := two_tup ul (sy _ _ (s4 _ _ (R4.at_ u um)))
      have lj : j < 81 := by
        have := (List.getElem?_eq_some_iff.mp er).1
        omega
      refine ⟨u.1, _, rfl, SqT.of hu5, rfl, _, _, rfl, _, _, rfl, rfl, rfl, ?_⟩
      refine ⟨_, rfl, _, rfl, (by show 2 ≤ sizeLine; decide), fun t nt => ?_⟩
      obtain ⟨acc, b1, b2, b3⟩ := hB.more hD (same_new (o := .tup [V.str (at_ u.2 1), V.str (at_ u.2 0)]) nt) (t := t) (r := swap u.2) upd_same
      refine ⟨acc, b1, by rw [b2, List.length_map, List.length_take, sizeLine_eq]; omega, ?_⟩
      rw [List.take_add_one, er, List.map_append]
      exact b3
    · rintro Hx ⟨W, q1, q2, q3, q4⟩
      rw [lM, List.take_length] at q2
      have lW : W.length ≤ 81 := by
        have := congrArg List.length q2
        rw [List.length_map, List.length_map] at this
        omega
      have inW : ∀ e ∈ W, ∃ r ∈ rs, e.2 = swap r := fun e he => by
        have : e.2 ∈ rs.map swap := by
          rw [← q2]
          exact List.mem_map.mpr ⟨e, he, rfl⟩
        obtain ⟨m, hm, e1⟩ := List.mem_map.mp this
        exact ⟨m, hm, e1.symm⟩
      refine make_table (d := 1) (q4 _ _ (s4 _ _ hA3)) ok (by decide) q1 ⟨fun e he => (q3 e he).2, fun e he => ?_, by omega⟩ (fun e he => ?_) fun x H5 ws nx mw T5 s5 => ?_
      · obtain ⟨r, _, e1⟩ := inW e he
        rw [e1]
        rfl
      · obtain ⟨r, hr, e1⟩ := inW e he
        rw [e1]
        exact swap_over (T1.len r hr) (o1 r hr)
      · exact k x H5 ws (none_back (fun b o z => q4 _ _ (s04 _ _ z)) nx) (fun r => by rw [mw, q2]) T5 fun b o z => s5 _ _ (q4 _ _ (s04 _ _ z))
theorem dec_str (x y : Str) : (V.bl (decide (V.str x = V.str y))) = V.bl (decide (x = y)) := by
  by_cases e : x = y
  · subst e
    simp
  · have : V.str x ≠ V.str y := fun h => e (V.str.inj h)
    simp [e, this]
theorem scChained : FnScope ["one", "other", "steps", "rows", "start", "middle", "meeting", "end"] ["one", "other"] (defScope sChained) := ⟨rfl, rfl, rfl, by decide +kernel, rfl, by decide +kernel, by decide +kernel⟩
def spChained (C : Addr) : Sp := fun vs H Q _ => ∃ (p q : Addr) (ms : List Str) (rs us : List (List Str)), vs = [.ref p, .ref q] ∧ TableAt C H p ms 1 rs ∧ TableAt C H q ms 1 us ∧ MarksOk ms ∧ ms.length ≤ 3 ∧ Over ms rs ∧ Over ms us ∧
  ∀ (x : Addr) (H' : Hp) (ws : List (List Str)), H x = none → (∀ r, r ∈ ws ↔ r ∈ chainL rs us) → TableAt C H' x ms 1 ws → Same H H' → Q (.ref x) H'
theorem ok_chained {fT fS : Addr} {dT dS : FuncData} (F : FnP K "chained" sChained f fd) (TM : TM P w K mg base C)
    (GT : FnOk P w K mg base CX0 2 fT dT ["table"] (spNon (PairArg C))) (bT : Binds K dT ["table"] []) (kT : PySem.W.keepIn K (.ref fT) = true) (gT : mg "check_pair_table" = some (.ref fT))
    (GS : FnOk P w K mg base CX0 2 fS dS ["one", "other"] (spNon (SameArg C))) (bS : Binds K dS ["one", "other"] []) (kS : PySem.W.keepIn K (.ref fS) = true) (gS : mg "check_same_marks" = some (.ref fS)) :
    FnOk P w K mg base CX0 6 f fd ["one", "other"] (spChained C) := by
  obtain ⟨fI, dI, GI, bI, mk⟩ := TM.ini
  obtain ⟨fA, dA, GA, bA, mA⟩ := TM.marks
  obtain ⟨fR, dR, GR, bR, mR⟩ := TM.rows
  have TT := TM.tc
  refine F.ok scChained (fun vs H Q E h => ?_) (fun cdv A outer s H vs Q E hr h => ?_)
  · obtain ⟨p, q, ms, rs, us, rfl, _⟩ := h
    rfl
  · obtain ⟨p, q, ms, rs, us, rfl, T1, T2, ok, few, o1, o2, k⟩ := h
    refine ⟨_, PSs.nox (pss_cons (ps_expr (pe_call GT (hr.mono (by decide)) rfl gT kT bT .nil pass0 (pa_cons (pv 0) pa_nil)))
      (pss_cons (ps_expr (pe_call GT (hr.mono (by decide)) rfl gT kT bT .nil pass0 (pa_cons (pv 1) pa_nil)))
      (pss_cons (ps_expr (pe_call GS (hr.mono (by decide)) rfl gS kS bS .nil pass0 (pa_cons (pv 0) (pa_cons (pv 1) pa_nil))))
      (pss_cons (ps_set (i := 2) scChained.nd rfl (Or.inr rfl) (pe_meth0 (pv 1) TT.cl mR GR (hr.mono (by decide)) bR .nil pass0))
      (pss_cons (ps_setLc2 (i := 3) (own := [("start", 4), ("middle", 5), ("meeting", 6), ("end", 7)]) (vs1 := [6, 7]) (g := gTup K 2 (gCons (gName 4) (gCons (gName 5) gNil))) (tt := tYes) (g1 := gTup K 2 (gCons (gName 6) (gCons (gName 7) gNil))) (tt1 := tTest (tOp rEq (tVar 5) (tVar 6))) (wi1 := iList K (tVar 2)) (te := tTup (tCons (tVar 4) (tCons (tVar 7) tNil))) rfl scChained.nd rfl rfl (sw_true rfl rfl rfl (by decide +kernel)) (pi_list (pe_meth0 (pv 0) TT.cl mR GR (hr.mono (by decide)) bR .nil pass0)) (blkOk_by (own := [("start", 4), ("middle", 5), ("meeting", 6), ("end", 7)]) (N := ["one", "other", "steps", "rows", "start", "middle", "meeting", "end"]) (sc := defScope sChained) (by decide +kernel)) (by decide)
          (fun _ _ _ _ _ => pg_tup rfl (pgs_cons (pg_name (i := 4) scChained.nd rfl (Or.inl rfl)) (pgs_cons (pg_name (i := 5) scChained.nd rfl (Or.inl rfl)) pgs_nil))) (fun _ _ _ _ _ => pts_nil)
          (fun _ _ _ _ _ => pi_list (pv 2)) (fun _ _ _ _ _ => pg_tup rfl (pgs_cons (pg_name (i := 6) scChained.nd rfl (Or.inl rfl)) (pgs_cons (pg_name (i := 7) scChained.nd rfl (Or.inl rfl)) pgs_nil))) (fun _ _ _ _ _ => pts_one (pt_cmpR op_eq (pv 5) (pv 6) (nomark _)))
          (fun _ _ _ _ _ => pe_tup (pa_cons (pv 4) (pa_cons (pv 7) pa_nil))))
      (pss_one (ps_ret (pe_make mk GI (hr.mono (by decide)) rfl TT.mgC bI .nil pass0 (pa_cons (pe_meth0 (pv 0) TT.cl mA GA (hr.mono (by decide)) bA .nil pass0) (pa_cons pe_int (pa_cons (pv 3) pa_nil))))))))))), ?_⟩
    refine ⟨_, rfl, ⟨p, ms, rs, rfl, T1⟩, fun H1 s1 => ?_⟩
    refine ⟨_, rfl, ⟨q, ms, us, rfl, T2.to s1⟩, fun H2 s2 => ?_⟩
    have s02 : Same H H2 := fun b o z => s2 _ _ (s1 _ _ z)
    refine ⟨_, rfl, _, rfl, ⟨p, q, ms, 1, 1, rs, us, rfl, T1.to s02, T2.to s02, ok⟩, fun H3 s3 => ?_⟩
    have s03 : Same H H3 := fun b o z => s3 _ _ (s02 _ _ z)
    obtain ⟨dy, B1, S, N0, g1, _⟩ := id (T2.to s03)
    refine ⟨_, rfl, q, dy, _, rfl, g1, no_attr (by decide +kernel), q, ms, 1, us, rfl, T2.to s03, fun L4 M4 H4 nL4 hL4 R4 e4 s4 => ?_⟩
    have s04 : Same H H4 := fun b o z => s4 _ _ (s03 _ _ z)
    obtain ⟨dx, A1, R, M0, h1, _⟩ := id (T1.to s04)
    refine ⟨_, rfl, p, dx, _, rfl, h1, no_attr (by decide +kernel), p, ms, 1, rs, rfl, T1.to s04, fun L5 M5 H5 nL5 hL5 R5 e5 s5 => ⟨L5, rfl, ⟨_, SqL.of hL5⟩, fun D hD => ?_⟩⟩
    have s05 : Same H H5 := fun b o z => s5 _ _ (s04 _ _ z)
    have l1 := table_few T1 o1 few
    have l2 := table_few T2 o2 few
    have l19 : rs.length ≤ 9 := l1
    have l29 : us.length ≤ 9 := l2
    have lM5 : (M5.map fun e => V.ref e.1).length = rs.length := by rw [← e5, List.length_map, List.length_map]
    have lM4 : (M4.map fun e => V.ref e.1).length = us.length := by rw [← e4, List.length_map, List.length_map]
    have hL45 := s5 _ _ hL4
    have R45 : ∀ e ∈ M4, H5 e.1 = some (.tup (e.2.map V.str)) := fun e he => s5 _ _ (s4 _ _ (R4.at_ e he))
    have R55 : ∀ e ∈ M5, H5 e.1 = some (.tup (e.2.map V.str)) := fun e he => s5 _ _ (R5.at_ e he)
    refine lc2_out (walk_list (K := K) (a := L5) (xs := M5.map fun e => V.ref e.1)) (fun j Hx => Built D H5 (chainL (rs.take j) us) Hx) (Built.first hD) (fun j Hx _ ⟨_, _, _, _, z⟩ => SqL.of (z _ _ hL5)) ?_ ?_
    · rintro j v Hx H' hj hB ⟨rfl, ex⟩
      rw [List.getElem?_map] at ex
      obtain ⟨u, hu, rfl⟩ := Option.map_eq_some_iff.mp ex
      have um := List.mem_of_getElem? hu
      have er : rs[j]? = some u.2 := by rw [← e5, List.getElem?_map, hu] <;> rfl
      have ul := T1.len u.2 (List.mem_of_getElem? er)
      obtain ⟨_, _, _, _, sx⟩ := id hB
      have hu5 := two_tup ul (sx _ _ (R55 u um))
      have ec : chainL (rs.take (j + 1)) us = chainL (rs.take j) us ++ chainOf us u.2 := by
        unfold chainL
        exact take_flat _ _ er
      have lj : j < 9 := by
        have := (List.getElem?_eq_some_iff.mp er).1
        omega
      have lC : (chainL (rs.take j) us).length ≤ 81 := by
        refine Nat.le_trans (chainL_len _ _) ?_
        rw [List.length_take]
        exact Nat.le_trans (Nat.mul_le_mul (show min j rs.length ≤ 9 by omega) l29) (by decide)
      refine ⟨u.1, _, rfl, SqT.of hu5, rfl, _, _, rfl, _, _, rfl, rfl, rfl, ?_⟩
      refine ⟨_, rfl, L4, rfl, ⟨_, SqL.of (sx _ _ hL45)⟩, lc2_in (walk_list (K := K) (a := L4) (xs := M4.map fun e => V.ref e.1)) (fun l Hy => Built D H5 (chainL (rs.take j) us ++ chainOf (us.take l) u.2) Hy) ?_ (fun l Hy _ ⟨_, _, _, _, z⟩ => SqL.of (z _ _ hL45)) ?_ ?_⟩
      · show Built D H5 (_ ++ []) _
        rw [List.append_nil]
        exact hB
      · rintro l v Hy H' hl hB2 ⟨rfl, ey⟩
        rw [List.getElem?_map] at ey
        obtain ⟨y, hy, rfl⟩ := Option.map_eq_some_iff.mp ey
        have ym := List.mem_of_getElem? hy
        have eu : us[l]? = some y.2 := by rw [← e4, List.getElem?_map, hy] <;> rfl
        have yl := T2.len y.2 (List.mem_of_getElem? eu)
        obtain ⟨_, _, _, _, sy⟩ := id hB2
        have hy5 := two_tup yl (sy _ _ (R45 y ym))
        have es := chainOf_step (x := u.2) eu
        refine ⟨y.1, _, rfl, SqT.of hy5, rfl, _, _, rfl, _, _, rfl, rfl, rfl, ?_⟩
        refine ⟨_, rfl, _, rfl, rfl, decide (at_ u.2 1 = at_ y.2 0), dec_str _ _, ?_⟩
        by_cases c : at_ u.2 1 = at_ y.2 0
        · rw [decide_eq_true c]
          rw [if_pos c] at es
          refine iteT ?_
          refine ⟨_, rfl, _, rfl, (by show 2 ≤ sizeLine; decide), fun t nt => ?_⟩
          obtain ⟨acc, b1, b2, b3⟩ := hB2.more hD (same_new (o := .tup [V.str (at_ u.2 0), V.str (at_ y.2 1)]) nt) (t := t) (r := link u.2 y.2) upd_same
          refine ⟨acc, b1, ?_, ?_⟩
          · rw [b2, List.length_append, sizeLine_eq]
            have := chainOf_len (us.take l) u.2
            rw [List.length_take] at this
            omega
          · rw [es, ← List.append_assoc]
            exact b3
        · rw [decide_eq_false c]
          rw [if_neg c, List.append_nil] at es
          refine iteF ?_
          rw [es]
          exact hB2
      · intro Hy hB2
        rw [lM4, List.take_length] at hB2
        rw [ec]
        exact hB2
    · rintro Hx ⟨W, q1, q2, q3, q4⟩
      rw [lM5, List.take_length] at q2
      have s0x : Same H Hx := fun b o z => q4 _ _ (s05 _ _ z)
      have lW : W.length ≤ 81 := by
        have := congrArg List.length q2
        rw [List.length_map] at this
        have h2 := chainL_len rs us
        have h3 := Nat.mul_le_mul l19 l29
        omega
      have inW : ∀ e ∈ W, ∃ x ∈ rs, ∃ y ∈ us, e.2 = link x y := fun e he => by
        have : e.2 ∈ chainL rs us := by
          rw [← q2]
          exact List.mem_map.mpr ⟨e, he, rfl⟩
        obtain ⟨x, hx, y, hy, _, e1⟩ := chainL_mem.mp this
        exact ⟨x, hx, y, hy, e1⟩
      obtain ⟨dz, A6, R6, M6, h6, _⟩ := id (T1.to s0x)
      refine ⟨_, rfl, p, dz, _, rfl, h6, no_attr (by decide +kernel), p, ms, 1, rs, rfl, T1.to s0x, fun A7 H7 nA7 hA7 s7 => ?_⟩
      refine ⟨_, rfl, ?_⟩
      refine make_table (d := 1) hA7 ok (by decide) (s7 _ _ q1) ⟨fun e he => s7 _ _ (q3 e he).2, fun e he => ?_, by omega⟩ (fun e he z hz => ?_) fun x H8 ws nx mw T8 s8 => ?_
      · obtain ⟨x, _, y, _, e1⟩ := inW e he
        rw [e1]
        rfl
      · obtain ⟨x, hx, y, hy, e1⟩ := inW e he
        rw [e1] at hz
        simp only [link, List.mem_cons, List.not_mem_nil, or_false] at hz
        have lx := T1.len x hx
        have ly := T2.len y hy
        rcases hz with rfl | rfl
        · exact o1 x hx _ (List.mem_of_getElem? (at_get (by omega)))
        · exact o2 y hy _ (List.mem_of_getElem? (at_get (by omega)))
      · exact k x H8 ws (none_back (fun b o z => s7 _ _ (s0x _ _ z)) nx) (fun r => by rw [mw, q2]) T8 fun b o z => s8 _ _ (s7 _ _ (s0x _ _ z))
end
end Yt

set_option Elab.async false
set_option linter.all false
set_option maxRecDepth 100000
set_option maxHeartbeats 2000000
namespace Yt
open PySem PySem.Spec PyProof.Rows L2
/-! ### a dictionary whose keys are rows -/
def DR (F : List (List Str)) : List (List Key × V) := F.map fun r => (kR r, V.bl true)
theorem DR_keys (F : List (List Str)) : (DR F).map (·.1) = F.map kR := by
  unfold DR
  rw [List.map_map]
  rfl
theorem DR_len (F : List (List Str)) : (DR F).length = F.length := List.length_map _
theorem mem_kR {F : List (List Str)} {r : List Str} : kR r ∈ F.map kR ↔ r ∈ F := by
  constructor
  · intro h
    obtain ⟨u, hu, e⟩ := List.mem_map.mp h
    rw [← kR_inj e]
    exact hu
  · exact fun h => List.mem_map.mpr ⟨r, h, rfl⟩
def addR (F : List (List Str)) (r : List Str) : List (List Str) := if r ∈ F then F else F ++ [r]
theorem addR_mem {F : List (List Str)} {r u : List Str} : u ∈ addR F r ↔ u ∈ F ∨ u = r := by
  unfold addR
  split
  · rename_i h
    exact ⟨.inl, fun q => q.elim id fun e => by rw [e]; exact h⟩
  · rw [List.mem_append, List.mem_singleton]
theorem addR_nodup {F : List (List Str)} {r : List Str} (h : F.Nodup) : (addR F r).Nodup := by
  unfold addR
  split
  · exact h
  · rename_i c
    rw [List.nodup_append]
    exact ⟨h, List.pairwise_singleton _ _, fun a ha b hb e => c (by rw [← List.mem_singleton.mp hb, ← e]; exact ha)⟩
theorem DR_any {F : List (List Str)} {r : List Str} : ((DR F).any fun kv => decide (kv.1 = kR r)) = decide (r ∈ F) := by
  unfold DR
  rw [List.any_map]
  by_cases c : r ∈ F
  · rw [decide_eq_true c]
    exact List.any_eq_true.mpr ⟨r, c, decide_eq_true rfl⟩
  · rw [decide_eq_false c]
    exact List.any_eq_false.mpr fun u hu z => c (by rw [← kR_inj (of_decide_eq_true z)]; exact hu)
theorem putDR (F : List (List Str)) (r : List Str) : putK (DR F) (kR r) (V.bl true) = DR (addR F r) := by
  unfold addR
  by_cases c : r ∈ F
  · rw [if_pos c]
    unfold putK
    rw [if_pos (DR_any.trans (decide_eq_true c))]
    unfold DR
    rw [List.map_map]
    refine List.map_congr_left fun u _ => ?_
    show (if kR u = kR r then (kR u, V.bl true) else (kR u, V.bl true)) = _
    split <;> rfl
  · rw [if_neg c, putK_new (by rw [DR_keys, mem_kR]; exact c)]
    unfold DR
    rw [List.map_append]
    rfl
theorem DR_get {F : List (List Str)} {r : List Str} : (valV (DR F) (kR r)).isSome = decide (r ∈ F) := by
  rw [← valV_any]
  exact DR_any
theorem nodup_kR {F : List (List Str)} (h : F.Nodup) : (F.map kR).Nodup := List.pairwise_map.mpr (List.Pairwise.imp (fun {a b} n e => n (kR_inj e)) h)
def RowsOk (ms : List Str) (n : Nat) (F : List (List Str)) : Prop := ∀ r ∈ F, r.length = n ∧ ∀ z ∈ r, z ∈ ms
theorem rows_few {ms : List Str} {n : Nat} {F : List (List Str)} (R : RowsOk ms n F) (nd : F.Nodup) (few : ms.length ≤ 3) (n4 : n ≤ 4) : F.length ≤ 81 := by
  have := nodup_few F (rowsN ms n) nd fun u hu => (rowsN_mem ms n u).mpr (R u hu)
  rw [rowsN_len] at this
  exact Nat.le_trans this (Nat.le_trans (Nat.pow_le_pow_left few _) (Nat.le_trans (Nat.pow_le_pow_right (by decide) n4) (by decide)))
end Yt

set_option Elab.async false
set_option linter.all false
set_option maxRecDepth 100000
set_option maxHeartbeats 2000000
namespace Yt
open PySem PySem.Spec PyProof.Rows L2
abbrev sLChain : Stmt := top 51
abbrev sLPairT : Stmt := top 52
theorem purse_ne {H : Hp} {p a : Addr} {g : Nat} {ms : List Str} (hP : PurseAt H p g) (h : H a = some (.lst (ms.map V.str))) : a ≠ p := fun e => by
  obtain ⟨x, y, c, t, q, _⟩ := hP
  rw [e, q] at h
  match ms, h with
  | [], h => cases h
  | m :: ms, h => cases h
theorem purse_nt {H : Hp} {p a : Addr} {g : Nat} {xs : List V} (hP : PurseAt H p g) (h : H a = some (.tup xs)) : a ≠ p := fun e => by
  obtain ⟨x, y, c, t, q, _⟩ := hP
  rw [e, q] at h
  cases h
theorem purse_nr {H : Hp} {p a : Addr} {g : Nat} {M : List (Addr × List Str)} (hP : PurseAt H p g) (h : H a = some (.lst (M.map fun e => V.ref e.1))) : a ≠ p := fun e => by
  obtain ⟨x, y, c, t, q, _⟩ := hP
  rw [e, q] at h
  match M, h with
  | [], h => cases h
  | m :: ms, h => cases h
/-- ascending rows over marks, in a list -/
structure Rws (H : Hp) (L : Addr) (ms : List Str) (d : Nat) (M : List (Addr × List Str)) : Prop where
  at_ : H L = some (.lst (M.map fun e => V.ref e.1))
  inn : RowsIn H d M
  up : Up (M.map (·.2))
  ok : RowsOk ms (d + 1) (M.map (·.2))
theorem Rws.to {H H' : Hp} {L : Addr} {ms : List Str} {d : Nat} {M : List (Addr × List Str)} (h : Rws H L ms d M) (s : Same H H') : Rws H' L ms d M := ⟨s _ _ h.at_, h.inn.to s, h.up, h.ok⟩
theorem Rws.but {H H' : Hp} {L p : Addr} {g : Nat} {ms : List Str} {d : Nat} {M : List (Addr × List Str)} (h : Rws H L ms d M) (hP : PurseAt H p g) (b : But p H H') : Rws H' L ms d M :=
  ⟨b _ _ (purse_nr hP h.at_) h.at_, ⟨fun e he => b _ _ (purse_nt hP (h.inn.at_ e he)) (h.inn.at_ e he), h.inn.len, h.inn.few⟩, h.up, h.ok⟩
theorem Rws.rows {H : Hp} {L : Addr} {ms : List Str} {d : Nat} {M : List (Addr × List Str)} (h : Rws H L ms d M) : RowsAt H L M := ⟨h.at_, h.inn.at_⟩
theorem Rws.over {H : Hp} {L : Addr} {ms : List Str} {d : Nat} {M : List (Addr × List Str)} (h : Rws H L ms d M) : Over ms (M.map (·.2)) := fun r hr => (h.ok r hr).2
theorem Rws.few {H : Hp} {L : Addr} {ms : List Str} {d : Nat} {M : List (Addr × List Str)} (h : Rws H L ms d M) (few : ms.length ≤ 3) : M.length ≤ 3 ^ (d + 1) := by
  have := nodup_few _ (rowsN ms (d + 1)) h.up.nodup fun u hu => (rowsN_mem ms (d + 1) u).mpr (h.ok u hu)
  rw [rowsN_len, List.length_map] at this
  exact Nat.le_trans this (Nat.pow_le_pow_left few _)
/-- a dictionary of rows, sorted -/
theorem sort_dr {H : Hp} {Fd : Addr} {F : List (List Str)} {d : Nat} {Q : VK} (hF : H Fd = some (.dT (DR F))) (nd : F.Nodup) (few : F.length < 300) (len : ∀ r ∈ F, r.length = d + 1)
    (k : ∀ (L : Addr) (N : List (Addr × List Str)), H L = none → RowsIn (upd H L (.lst (N.map fun e => V.ref e.1))) d N → Up (N.map (·.2)) → (∀ r, r ∈ N.map (·.2) ↔ r ∈ F) → Q (.ref L) (upd H L (.lst (N.map fun e => V.ref e.1)))) : rSortDict [.ref Fd] H Q := by
  refine ⟨Fd, DR F, d, rfl, hF, by rw [DR_keys]; exact nodup_kR nd, by rw [DR_len]; exact few, fun e he => ?_, fun M2 eM RM M' L pm up nL => ?_⟩
  · obtain ⟨r, hr, rfl⟩ := List.mem_map.mp he
    exact ⟨r, rfl, len r hr⟩
  · refine k L M' nL ((RM.perm pm).to (same_new nL)) up fun r => ?_
    rw [(pm.map (·.2)).mem_iff]
    rw [DR_keys] at eM
    constructor
    · intro h
      obtain ⟨e, he, rfl⟩ := List.mem_map.mp h
      exact mem_kR.mp (by rw [← eM]; exact List.mem_map.mpr ⟨e, he, rfl⟩)
    · intro h
      obtain ⟨e, he, ee⟩ := List.mem_map.mp (by rw [eM]; exact mem_kR.mpr h : kR r ∈ M2.map fun e => kR e.2)
      exact List.mem_map.mpr ⟨e, he, kR_inj ee⟩
section
variable {P : Program} {w : World} {K : PySem.W.Frag} {mg : Str → Option Value} {base : Heap} {f : Addr} {fd : FuncData} {C : Addr}
theorem scLChain : FnScope ["_law_one", "_law_other", "_law_found", "_law_first", "_law_late"] ["_law_one", "_law_other"] (defScope sLChain) := ⟨rfl, rfl, rfl, by decide +kernel, rfl, by decide +kernel, by decide +kernel⟩
def spLChain : Sp := fun vs H Q _ => ∃ (l1 l2 : Addr) (M1 M2 : List (Addr × List Str)), vs = [.ref l1, .ref l2] ∧ RowsAt H l1 M1 ∧ RowsAt H l2 M2 ∧ (∀ e ∈ M1, e.2.length = 2) ∧ (∀ e ∈ M2, e.2.length = 2) ∧ M1.length ≤ 9 ∧ M2.length ≤ 9 ∧
  ∀ (L : Addr) (N : List (Addr × List Str)) (H' : Hp), H L = none → H' L = some (.lst (N.map fun e => V.ref e.1)) → RowsIn H' 1 N → Up (N.map (·.2)) → (∀ r, r ∈ N.map (·.2) ↔ r ∈ chainL (M1.map (·.2)) (M2.map (·.2))) → Same H H' → Q (.ref L) H'
theorem ok_lchain (F : FnP K "_law_chain_rows" sLChain f fd) (hso : mg "sorted" = none) : FnOk P w K mg base CX0 1 f fd ["_law_one", "_law_other"] spLChain := by
  refine F.ok scLChain (fun vs H Q E h => ?_) (fun cdv A outer s H vs Q E hr h => ?_)
  · obtain ⟨l1, l2, M1, M2, rfl, _⟩ := h
    rfl
  · obtain ⟨l1, l2, M1, M2, rfl, h1, h2, g1, g2, f1, f2, k⟩ := h
    have hu4 := units4 hr
    have hu := hu_of hr
    refine ⟨_, PSs.nox (pss_cons (ps_set (i := 2) scLChain.nd rfl (Or.inl rfl) pe_dnewT)
      (pss_cons (ps_for PassesOwn.never rfl (pi_list (pv 0)) (pg_name (i := 3) scLChain.nd rfl (Or.inl rfl))
        (pss_one (ps_for PassesOwn.never rfl (pi_list (pv 1)) (pg_name (i := 4) scLChain.nd rfl (Or.inl rfl))
          (pss_one (ps_if (pt_cmpR op_eq (pe_ix ix_tup (pv 3) pe_int (fun _ _ => rfl)) (pe_ix ix_tup (pv 4) pe_int (fun _ _ => rfl)) (nomark _))
            (pss_one (ps_dput hu (pv 2) (pe_tup (pa_cons (pe_ix ix_tup (pv 3) pe_int (fun _ _ => rfl)) (pa_cons (pe_ix ix_tup (pv 4) pe_int (fun _ _ => rfl)) pa_nil))) pe_bl rfl)) pss_nil)))))
      (pss_one (ps_ret (pe_callB (cr_sortDict rfl hu4) (by rfl) hso (by decide +kernel) (pa_cons (pv 2) pa_nil)))))), ?_⟩
    refine fun Fd nF => ?_
    have sF := same_new (o := .dT []) nF
    have lM1 : (M1.map fun e => V.ref e.1).length = (M1.map (·.2)).length := by rw [List.length_map, List.length_map]
    have lM2 : (M2.map fun e => V.ref e.1).length = (M2.map (·.2)).length := by rw [List.length_map, List.length_map]
    have neF : ∀ {b : Addr} {o : HO}, H b = some o → b ≠ Fd := fun e => ne_of_none e nF
    have lens : ∀ {j : Nat} {G : List (List Str)}, (∀ r, r ∈ G → r ∈ chainL (M1.map (·.2)) (M2.map (·.2))) → ∀ r ∈ G, r.length = 2 := fun {j G} h r hr => by
      obtain ⟨x, _, y, _, _, rfl⟩ := chainL_mem.mp (h r hr)
      rfl
    have l81 : (chainL (M1.map (·.2)) (M2.map (·.2))).length ≤ 81 := Nat.le_trans (chainL_len _ _) (by
      rw [List.length_map, List.length_map]
      exact Nat.le_trans (Nat.mul_le_mul f1 f2) (by decide))
    have sub : ∀ {j : Nat} {r : List Str}, r ∈ chainL ((M1.map (·.2)).take j) (M2.map (·.2)) → r ∈ chainL (M1.map (·.2)) (M2.map (·.2)) := fun {j r} h => by
      obtain ⟨x, hx, y, hy, e, e2⟩ := chainL_mem.mp h
      exact chainL_mem.mpr ⟨x, List.mem_of_mem_take hx, y, hy, e, e2⟩
    refine ⟨_, rfl, l1, rfl, ⟨_, SqL.of (sF _ _ h1.1)⟩, for_list (K := K) (a := l1) (xs := M1.map fun e => V.ref e.1) (fun j σ Hc => ∃ (v3 v4 : Option V) (G : List (List Str)), σ = [some (.ref l1), some (.ref l2), some (.ref Fd), v3, v4] ∧ Hc Fd = some (.dT (DR G)) ∧ G.Nodup ∧ (∀ r, r ∈ G ↔ r ∈ chainL ((M1.map (·.2)).take j) (M2.map (·.2))) ∧ Same H Hc)
      ⟨none, none, [], rfl, upd_same, List.nodup_nil, (fun r => by simp [chainL]), sF⟩ (fun j σ Hc _ ⟨_, _, _, _, _, _, _, z⟩ => SqL.of (z _ _ h1.1)) ?_ ?_⟩
    · rintro j v σ Hc hj ⟨v3, v4, G, rfl, hG, nd, mG, sc⟩
      rw [List.getElem?_map] at hj
      obtain ⟨u, hu', rfl⟩ := Option.map_eq_some_iff.mp hj
      have um := List.mem_of_getElem? hu'
      have er : (M1.map (·.2))[j]? = some u.2 := by rw [List.getElem?_map, hu'] <;> rfl
      have ul := g1 u um
      have ec : chainL ((M1.map (·.2)).take (j + 1)) (M2.map (·.2)) = chainL ((M1.map (·.2)).take j) (M2.map (·.2)) ++ chainOf (M2.map (·.2)) u.2 := by
        unfold chainL
        exact take_flat _ _ er
      refine ⟨_, rfl, l2, rfl, ⟨_, SqL.of (sc _ _ h2.1)⟩, for_list (K := K) (a := l2) (xs := M2.map fun e => V.ref e.1) (fun l σ Hd => ∃ (v4 : Option V) (G : List (List Str)), σ = [some (.ref l1), some (.ref l2), some (.ref Fd), some (.ref u.1), v4] ∧ Hd Fd = some (.dT (DR G)) ∧ G.Nodup ∧ (∀ r, r ∈ G ↔ r ∈ chainL ((M1.map (·.2)).take j) (M2.map (·.2)) ∨ r ∈ chainOf ((M2.map (·.2)).take l) u.2) ∧ Same H Hd)
        ⟨v4, G, rfl, hG, nd, (fun r => by rw [mG]; simp [chainOf]), sc⟩ (fun l σ Hd _ ⟨_, _, _, _, _, _, z⟩ => SqL.of (z _ _ h2.1)) ?_ ?_⟩
      · rintro l v σ Hd hl ⟨v4, G, rfl, hG, nd, mG, sd⟩
        rw [List.getElem?_map] at hl
        obtain ⟨y, hy', rfl⟩ := Option.map_eq_some_iff.mp hl
        have ym := List.mem_of_getElem? hy'
        have eu : (M2.map (·.2))[l]? = some y.2 := by rw [List.getElem?_map, hy'] <;> rfl
        have yl := g2 y ym
        have es := chainOf_step (x := u.2) eu
        have hu5 := two_tup ul (sd _ _ (h1.2 u um))
        have hy5 := two_tup yl (sd _ _ (h2.2 y ym))
        refine ⟨_, rfl, u.1, _, _, V.str (at_ u.2 1), rfl, rfl, SqT.of hu5, rfl, _, rfl, y.1, _, _, V.str (at_ y.2 0), rfl, rfl, SqT.of hy5, rfl, rfl, decide (at_ u.2 1 = at_ y.2 0), dec_str _ _, ?_⟩
        by_cases c : at_ u.2 1 = at_ y.2 0
        · rw [decide_eq_true c]
          rw [if_pos c] at es
          refine iteT ?_
          have lG : G.length ≤ 81 := by
            refine Nat.le_trans (nodup_few G (chainL (M1.map (·.2)) (M2.map (·.2))) nd fun r hr => ?_) l81
            rcases (mG r).mp hr with h | h
            · exact sub h
            · refine sub (j := j + 1) ?_
              rw [ec]
              refine List.mem_append_right _ ?_
              obtain ⟨z, hz, rfl⟩ := List.mem_map.mp h
              obtain ⟨z1, z2⟩ := List.mem_filter.mp hz
              exact List.mem_map.mpr ⟨z, List.mem_filter.mpr ⟨List.mem_of_mem_take z1, z2⟩, rfl⟩
          refine ⟨_, rfl, _, rfl, u.1, _, _, V.str (at_ u.2 0), rfl, rfl, SqT.of hu5, rfl, _, rfl, y.1, _, _, V.str (at_ y.2 1), rfl, rfl, SqT.of hy5, rfl, (by show 2 ≤ sizeLine; decide), fun t nt => ?_⟩
          have st := same_new (o := .tup [V.str (at_ u.2 0), V.str (at_ y.2 1)]) nt
          refine ⟨Fd, _, rfl, DPut.t (k := kR (link u.2 y.2)) (st _ _ hG) (by rw [kR_V]; exact upd_same) (by rw [DR_len, sizeLine_eq]; omega), ?_⟩
          rw [putDR]
          refine ⟨_, _, rfl, upd_same, addR_nodup nd, fun r => ?_, fun b o z => (upd_ne (neF z)).trans (st _ _ (sd _ _ z))⟩
          rw [addR_mem, mG, es, List.mem_append, List.mem_singleton, or_assoc]
        · rw [decide_eq_false c]
          rw [if_neg c, List.append_nil] at es
          refine iteF ?_
          exact ⟨_, G, rfl, hG, nd, fun r => by rw [mG, es], sd⟩
      · rintro σ Hd ⟨v4, G, rfl, hG, nd, mG, sd⟩
        rw [lM2, List.take_length] at mG
        exact ⟨_, _, G, rfl, hG, nd, fun r => by rw [mG, ec, List.mem_append], sd⟩
    · rintro σ Hc ⟨v3, v4, G, rfl, hG, nd, mG, sc⟩
      rw [lM1, List.take_length] at mG
      refine ⟨_, rfl, sort_dr (d := 1) hG nd ?_ (lens (j := 0) fun r hr => (mG r).mp hr) fun L N nL RN up mN => ?_⟩
      · have := nodup_few G _ nd fun r hr => (mG r).mp hr
        omega
      · exact k L N _ (none_back sc nL) upd_same RN up (fun r => (mN r).trans (mG r)) fun b o z => same_new nL _ _ (sc _ _ z)
theorem scLPairT : FnScope ["_law_purse_here", "_law_marks_here", "_law_turn"] ["_law_purse_here", "_law_marks_here"] (defScope sLPairT) := ⟨rfl, rfl, rfl, by decide +kernel, rfl, by decide +kernel, by decide +kernel⟩
def spLPairT : Sp := fun vs H Q _ => ∃ (p a : Addr) (g : Nat) (ms : List Str), vs = [.ref p, .ref a] ∧ PurseAt H p (g + 50) ∧ H a = some (.lst (ms.map V.str)) ∧ a ≠ p ∧ 0 < ms.length ∧ ms.length ≤ 3 ∧
  ∀ (D L1 L2 : Addr) (M1 M2 : List (Addr × List Str)) (H' : Hp), H' D = some (.lst [.ref L1, .ref L2]) → Rws H' L1 ms 1 M1 → Rws H' L2 ms 1 M2 → PurseAt H' p g → But p H H' → Q (.ref D) H'
theorem ok_lpairt {fR : Addr} {dR : FuncData} (F : FnP K "_law_pair_of_tables" sLPairT f fd) (T : Nm mg)
    (GR : FnOk P w K mg base CX0 5 fR dR ["_law_purse_here", "_law_marks_here", "_law_width", "_law_most"] spLDrawn) (bR : Binds K dR ["_law_purse_here", "_law_marks_here", "_law_width", "_law_most"] []) (kR' : PySem.W.keepIn K (.ref fR) = true) (gR : mg "_law_drawn_rows" = some (.ref fR)) :
    FnOk P w K mg base CX0 6 f fd ["_law_purse_here", "_law_marks_here"] spLPairT := by
  refine F.ok scLPairT (fun vs H Q E h => ?_) (fun cdv A outer s H vs Q E hr h => ?_)
  · obtain ⟨p, a, g, ms, rfl, _⟩ := h
    rfl
  · obtain ⟨p, a, g, ms, rfl, hP, ha, ne, l0, l3, k⟩ := h
    refine ⟨_, PSs.nox (pss_one (ps_ret (pe_lc (own := [("_law_turn", 2)]) (g := gName 2) (tt := tYes) rfl scLPairT.nd (pi_range1 rfl T.range (pa_cons pe_int pa_nil)) (blkOk_by (own := [("_law_turn", 2)]) (N := ["_law_purse_here", "_law_marks_here", "_law_turn"]) (sc := defScope sLPairT) (by decide +kernel))
        (fun _ _ _ _ _ => pg_name (i := 2) scLPairT.nd rfl (Or.inl rfl)) (fun _ _ _ _ _ => pts_nil)
        (fun _ _ _ _ _ => pe_call GR (hr.mono (by decide)) rfl gR kR' bR .nil pass0 (pa_cons (pv 0) (pa_cons (pv 1) (pa_cons pe_int (pa_cons pe_int pa_nil)))))))), ?_⟩
    refine ⟨_, rfl, by decide, by decide, fun D hD => ?_⟩
    have nD := hP.ne hD
    refine lc_range (lo := 0) (n := (2 : Int).toNat) (fun i Hx => ∃ W : List (Addr × List (Addr × List Str)), W.length = i ∧ Hx D = some (.lst (W.map fun e => V.ref e.1)) ∧ (∀ e ∈ W, e.1 ≠ D ∧ Rws Hx e.1 ms 1 e.2) ∧ PurseAt Hx p (g + 25 * (2 - i)) ∧ But p H Hx)
      ⟨[], rfl, upd_same, (fun e he => nomatch he), hP.at_ne nD, Same.but (same_new hD)⟩ ?_ ?_
    · rintro i H3 hi ⟨W, hl, hDW, hW, hP3, hB3⟩
      have hi : i < 2 := hi
      have e1 : g + 25 * (2 - i) = (g + 25 * (2 - (i + 1))) + (4 * 6 + 1) := by omega
      rw [e1] at hP3
      refine ⟨rfl, ?_⟩
      refine ⟨_, rfl, _, rfl, p, a, g + 25 * (2 - (i + 1)), 1, 6, ms, rfl, by decide, hP3, hB3 _ _ ne ha, ne, l0, l3, by decide, fun L M H4 nL hL RM up f6 or np hP4 hB4 => ?_⟩
      have hD4 := hB4 _ _ nD hDW
      have LD : L ≠ D := fun z => by
        rw [z, hDW] at nL
        cases nL
      have keep : ∀ {M : List (Addr × List Str)} {q : Addr} {l : List V}, q ≠ D → Rws H4 q ms 1 M → Rws (upd H4 D (.lst l)) q ms 1 M := fun {M q l} nq R => ⟨(upd_ne nq).trans R.at_, ⟨fun e he => (upd_ne fun z => by
        have h1 := R.inn.at_ e he
        rw [z, hD4] at h1
        cases h1).trans (R.inn.at_ e he), R.inn.len, R.inn.few⟩, R.up, R.ok⟩
      have RL : Rws H4 L ms 1 M := ⟨hL, RM, up, fun r hr => by
        obtain ⟨e, he, rfl⟩ := List.mem_map.mp hr
        exact ⟨RM.len e he, or e he⟩⟩
      refine ⟨_, hD4, by rw [List.length_map, sizeLine_eq]; omega, W ++ [(L, M)], by rw [List.length_append, hl]; rfl, by rw [upd_same, List.map_append]; rfl, fun e he => ?_, hP4.at_ne nD, fun b o nb q => ?_⟩
      · rcases List.mem_append.mp he with he | he
        · exact ⟨(hW e he).1, keep (hW e he).1 ((hW e he).2.but hP3 hB4)⟩
        · rw [List.mem_singleton.mp he]
          exact ⟨LD, keep LD RL⟩
      · exact (upd_ne (ne_of_none q hD)).trans (hB4 _ _ nb (hB3 _ _ nb q))
    · rintro Hx ⟨W, hl, hDW, hW, hPx, hBx⟩
      match W, hl, hDW, hW with
      | [e1, e2], _, hDW, hW =>
        refine k D e1.1 e2.1 e1.2 e2.2 Hx hDW (hW e1 (by simp)).2 (hW e2 (by simp)).2 (hPx.less (by omega)) hBx
end
end Yt

set_option Elab.async false
set_option linter.all false
set_option maxRecDepth 100000
set_option maxHeartbeats 2000000
namespace Yt
open PySem PySem.Spec PyProof.Rows L2
/-! ### t[::-1] of a tuple of two -/
def tRev2 (K : PySem.W.Frag) (te : TE) : TE := fun σ H Q => te σ H fun x H1 => ∃ a u v, x = .ref a ∧ SqT K H1 a [u, v] ∧ ∀ p, H1 p = none → Q (.ref p) (upd H1 p (.tup [v, u]))
section
variable {prog : Program} {w : World} {A : Around} {E : Value → Shared → Prop} {s : Shared}
theorem back_tup2 {t sl : Addr} {x y vs : Value} {Q : Value → Shared → Prop} (ht : PyProof.Rows.IsTup s.heap t #[x, y]) (hs : s.heap.IsSliceOf sl .none .none vs) (ps : IsPart vs (some (-1)))
    (h : Q (.ref s.heap.objs.size) { s with heap := s.heap.push { cls := .type "tuple", data := .seq #[y, x] } }) : wpAny (model prog w) A (getItem (.ref t) (.ref sl)) Q E s := by
  obtain ⟨ob, hob, hcb, hdb⟩ := id hs
  have hT : s.TypeIs (.ref sl) "slice" := ⟨ob, hob, hcb⟩
  unfold getItem
  try with_reducible refine wpAny_holding ?_
  first | refine wpAny_bind (wpAny_pure ?_) | skip
  refine wpAny_bind (wpAny_sequenceKey ht.typeIs (by decide) ?_)
  refine wpAny_bind (wpAny_callSpecial?_slot (name := Str.ofString "__getitem__") ht.typeIs PyProof.Rows.slot_tuple_getitem (wpAny_call_entry PyProof.Rows.slot_tuple_getitem ht.typeIs entry_tuple_getitem ?_ (args_tuple_getitem _ _)))
  show wpAny _ _ (Builtin.Tuple.tupleItemsOf (.ref t) >>= _) _ _ s
  refine wpAny_bind (tupleItemsOf_ ht (wpAny_bind (wpAny_typeOf hT ?_)))
  rw [if_pos (by decide)]
  refine wpAny_bind ?_
  unfold Builtin.Slice.sliceApplied Builtin.Slice.sliceFields
  refine wpAny_bind (wpAny_bind (wpAny_field hob hdb (x := .none) rfl (wpAny_bind (wpAny_field hob hdb (x := .none) rfl (wpAny_bind (wpAny_field hob hdb (x := vs) rfl (wpAny_pure ?_)))))))
  refine wpAny_bind (HT.slicePart_ ps ?_)
  show wpAny _ _ (if ((-1 : Int) == 0) = true then _ else _) _ _ s
  rw [if_neg (by decide)]
  refine wpAny_bind (slicePart_none (wpAny_bind (slicePart_none (wpAny_bind (wpAny_pure ?_)))))
  have ha : Builtin.Slice.sliceAdjust none none (-1) (((#[x, y] : Array Value).size : Nat) : Int) = (1, -1) := rfl
  have hp : Builtin.Slice.slicePlaces 1 (-1) (-1) = 2 := by decide
  show wpAny _ _ (match Builtin.Slice.sliceAdjust none none (-1) (((#[x, y] : Array Value).size : Nat) : Int) with | (lo, hi) => pure (lo, (-1 : Int), Builtin.Slice.slicePlaces lo hi (-1))) _ _ s
  rw [ha]
  show wpAny _ _ (pure ((1 : Int), (-1 : Int), Builtin.Slice.slicePlaces 1 (-1) (-1))) _ _ s
  rw [hp]
  refine wpAny_pure ?_
  have hi : ((List.range 2).filterMap fun (m : Nat) => (#[x, y] : Array Value)[((1 : Int) + (m : Int) * (-1)).toNat]?).toArray = #[y, x] := rfl
  have hno : ¬ ((((1 : Int) == 0 && (-1 : Int) == 1 && (2 : Nat) == (2 : Nat)) : Bool) = true) := by decide
  show wpAny _ _ (if (((1 : Int) == 0 && (-1 : Int) == 1 && (2 : Nat) == (2 : Nat)) : Bool) = true then _ else _) _ _ s
  rw [if_neg hno, hi]
  have small : sizeOk (.seq (#[y, x] : Array Value)) := by
    show (2 : Nat) ≤ sizeLine
    rw [sizeLine_eq]
    omega
  first
    | exact wpAny_bind (m := Builtin.Tuple.tupleExact _) (wpAny_newObj_type (wpAny_pure ⟨_, rfl, wpAny_pure h⟩) small)
    | exact wpAny_bind (m := Builtin.Tuple.tupleExact _) (wpAny_newObj_type (wpAny_bind (wpAny_pure (wpAny_pure ⟨_, rfl, wpAny_pure h⟩))) small)
    | exact wpAny_bind (wpAny_bind (m := Builtin.Tuple.tupleExact _) (wpAny_newObj_type (wpAny_pure (wpAny_pure ⟨_, rfl, wpAny_pure h⟩)) small))
    | exact wpAny_bind (wpAny_bind (m := Builtin.Tuple.tupleExact _) (wpAny_newObj_type (wpAny_pure ⟨_, rfl, wpAny_pure h⟩) small))
end
end Yt

set_option Elab.async false
set_option linter.all false
set_option maxRecDepth 100000
set_option maxHeartbeats 2000000
namespace Yt
open PySem PySem.Spec PyProof.Rows L2
theorem pe_rev2 {X : Cx} {e : Expr} {te : TE} {k : Nat} {p1 p2 p3 pos : Pos} (he : PE X e te) : PE X (.Subscript e (.Slice none none (some (.UnaryOp .USub (.Constant (.int 1) k p1) p2)) p3) pos) (tRev2 X.K te) := by
  constructor
  intro pins sa σ Ha Q Ia hq
  have first_ := he.run pins sa σ Ha (fun x H1 => ∃ a u v, x = .ref a ∧ SqT X.K H1 a [u, v] ∧ ∀ p, H1 p = none → Q (.ref p) (upd H1 p (.tup [v, u]))) Ia hq
  refine Subscript_ (thn first_ fun v1 sb ⟨x0, Hb, Ib, rb, qb⟩ => ?_)
  obtain ⟨a, u, z, rfl, hx, q⟩ := qb
  cases rb
  have minus : PO X (some (.UnaryOp .USub (.Constant (.int 1) k p1) p2)) (tPart (tUn (rU fun i => .int (-i)) (tC (.int 1)))) := po_some (pe_un un_neg pe_int)
  refine wpAny_Slice (thn (po_none.run pins sb σ Hb (fun o Hc => o = none ∧ Hc = Hb) Ib ⟨rfl, rfl⟩) fun vl sc ⟨o1, H2, I2, pl, ea, eb⟩ => ?_)
  subst ea eb
  refine thn (po_none.run pins sc σ H2 (fun o Hc => o = none ∧ Hc = H2) I2 ⟨rfl, rfl⟩) fun vu sd ⟨o2, H3, I3, pu, ea, eb⟩ => ?_
  subst ea eb
  refine thn (minus.run pins sd σ H3 (fun o Hc => o = some (-1) ∧ Hc = H3) I3 ⟨1, rfl, -1, rfl, rfl, rfl⟩) fun vs s4 ⟨o3, H4, I4, ps, ea, eb⟩ => ?_
  subst ea eb
  cases pl
  cases pu
  have I5 : Inv X pins σ H4 { s4 with heap := s4.heap.push { cls := .type "slice", data := .fields #[.none, .none, vs] } } := I4.kept (t' := s4.toks) fun b ob q => Heap.get?_push_of_some _ q
  obtain ⟨its, r, ht, hz⟩ := I5.tuple hx
  obtain ⟨x1, y1, rfl, rx, ry⟩ : ∃ x1 y1, its = [x1, y1] ∧ RelV u x1 ∧ RelV z y1 := by
    cases r with
    | cons h1 t1 =>
      cases t1 with
      | cons h2 t2 =>
        cases t2
        exact ⟨_, _, rfl, h1, h2⟩
  show wpAny (model X.prog X.w) X.A (subscriptTail e (.Slice none none (some (.UnaryOp .USub (.Constant (.int 1) k p1) p2)) p3) (.ref a) (.ref s4.heap.objs.size)) (EP X pins σ Q) X.xe { s4 with heap := s4.heap.push { cls := .type "slice", data := .fields #[.none, .none, vs] } }
  refine tail_any (ops := [.ref a, .ref s4.heap.objs.size]) ht.typeIs PyProof.Rows.slot_tuple_getitem.lookup ?_ (by with_unfolding_all rfl)
  refine back_tup2 ht (Heap.IsSliceOf.new _ .none .none vs) ps ?_
  refine ⟨.ref _, _, I5.laid (t' := s4.toks) (o := .tup [z, u]) (fun b ob q => Heap.get?_push_of_some _ q) (Nat.le_refl _) ?_, rfl, q _ (I5.hok.fresh (Nat.le_refl _))⟩
  exact ⟨by show 2 ≤ sizeLine; decide, [y1, x1], .cons ry (.cons rx .nil), PyProof.Rows.IsTup.new _ _⟩
end Yt

set_option Elab.async false
set_option linter.all false
set_option maxRecDepth 100000
set_option maxHeartbeats 2000000
namespace Yt
open PySem PySem.Spec PyProof.Rows L2
/-! ### lists of whole numbers, told apart -/
def intsD (ns : List Int) : PyData := .list (ns.map PyData.int)
theorem dp_ints {K : PySem.W.Frag} {H : Hp} : ∀ ns : List Int, DpAll K H (ns.map V.int) (ns.map PyData.int)
  | [] => .nil
  | z :: r => .cons (.int z) (dp_ints r)
theorem ints_lay : ∀ ns : List Int, PyData.canLayAll0 (ns.map PyData.int) = true
  | [] => rfl
  | z :: r => by
    show (PyData.canLay0 (.int z) && PyData.canLayAll0 (r.map PyData.int)) = true
    rw [ints_lay r]
    rfl
theorem ints_depth : ∀ ns : List Int, PyData.depthAll (ns.map PyData.int) = 0
  | [] => rfl
  | z :: r => by
    rw [List.map_cons, PyData.depthAll, ints_depth r]
    rfl
theorem ints_shaped (ns : List Int) : SeqAt.shaped (intsD ns) = true := by
  unfold SeqAt.shaped
  rw [show (intsD ns).canLay0 = true from ints_lay ns, decide_eq_true (by unfold intsD; rw [PyData.depth, ints_depth]; omega)]
  rfl
theorem eqv_ints : ∀ a : List Int, PyData.eqvAll (a.map PyData.int) (a.map PyData.int) = true
  | [] => rfl
  | x :: a => by
    rw [List.map_cons, PyData.eqvAll, eqv_ints a]
    show (PyData.eqv (.int x) (.int x) && true) = true
    rw [Bool.and_true]
    show (x == x) = true
    exact beq_self_eq_true x
section
variable {P : Program} {w : World} {K : PySem.W.Frag} {mg : Str → Option Value} {base : Heap} {f : Addr} {fd : FuncData} {C : Addr}
/-- the same promise of a dictionary of rows -/
def spLIsD (C : Addr) : Sp := fun vs H Q _ => ∃ (p a l : Addr) (ms : List Str) (d : Nat) (rs : List (List Str)) (kvs : List (List Key × V)), vs = [.ref p, .ref a, .int ((d + 1 : Nat) : Int), .ref l] ∧ TableAt C H p ms d rs ∧ H a = some (.lst (ms.map V.str)) ∧ H l = some (.dT kvs) ∧ (kvs.map (·.1)).Nodup ∧ kvs.length < 300 ∧ (∀ e ∈ kvs, ∃ x : List Str, e.1 = kR x ∧ x.length = d + 1) ∧ (∀ r, r ∈ rs ↔ kR r ∈ kvs.map (·.1)) ∧ ms.length ≤ 3 ∧ d ≤ 3 ∧
  ∀ H', Same H H' → Q (.bl true) H'
theorem ok_lisD {fT fX : Addr} {dT dX : FuncData} (F : FnP K "_law_is_table" sLIs f fd) (TM : TM P w K mg base C) (T6 : Nm6 mg) (hso : mg "sorted" = none)
    (GT : FnOk P w K mg base CX0 2 fT dT ["_law_table"] (spLTold C)) (bT : Binds K dT ["_law_table"] []) (kT : PySem.W.keepIn K (.ref fT) = true) (gT : mg "_law_told_table" = some (.ref fT))
    (GX : FnOk P w K mg base CX0 4 fX dX ["_law_mine", "_law_theirs"] (spExact K 4)) (bX : Binds K dX ["_law_mine", "_law_theirs"] []) (kX : PySem.W.keepIn K (.ref fX) = true) (gX : mg "_law_exact" = some (.ref fX)) :
    FnOk P w K mg base CX0 5 f fd ["_law_table", "_law_marks_here", "_law_width", "_law_rows"] (spLIsD C) := by
  have TT := TM.tc
  refine F.ok scLIs (fun vs H Q E h => ?_) (fun cdv A outer s H vs Q E hr h => ?_)
  · obtain ⟨p, a, l, ms, d, rs, kvs, rfl, _⟩ := h
    rfl
  · obtain ⟨p, a, l, ms, d, rs, kvs, rfl, T1, ha, hl, nd, k300, keys, mem, m3, d3, k⟩ := h
    have hu4 := units4 hr
    refine ⟨_, PSs.nox (pss_one (ps_ret (pe_and (pe_callB call_isi (by rfl) T6.isi (by decide +kernel) (pa_cons (pv 0) (pa_cons (pe_glob (v := .ref C) rfl TT.mgC rfl) pa_nil)))
      (pe_one (pe_call GX (hr.mono (by decide)) rfl gX kX bX .nil pass0 (pa_cons (pe_call GT (hr.mono (by decide)) rfl gT kT bT .nil pass0 (pa_cons (pv 0) pa_nil)) (pa_cons (pe_lst (pa_cons (pv 1) (pa_cons (pv 2) (pa_cons (pe_callB (cr_sortDict rfl hu4) (by rfl) hso (by decide +kernel) (pa_cons (pv 3) pa_nil)) pa_nil)))) pa_nil))))))), ?_⟩
    obtain ⟨dx, A1, R, M0, h1, _⟩ := id T1
    refine ⟨_, rfl, _, _, .ref C, _, true, rfl, .own C, TT.is h1, TT.kit, true, rfl, ?_⟩
    refine iteT ?_
    refine ⟨_, rfl, p, ms, d, rs, rfl, T1, fun L A2 R2 M H2 nL hL hA hR RM eM s2 => ?_⟩
    refine ⟨_, rfl, _, rfl, _, rfl, l, kvs, d, rfl, s2 _ _ hl, nd, k300, keys, fun M2 eM2 RM2 => fun N' S pm up nS => ?_⟩
    have sS := same_new (o := .lst (N'.map fun e => V.ref e.1)) nS
    refine ⟨by show 3 ≤ sizeLine; decide, fun T nT => ?_⟩
    have sT := same_new (o := .lst [.ref a, .int ((d + 1 : Nat) : Int), .ref S]) nT
    have s5 : Same H2 (upd (upd H2 S (.lst (N'.map fun e => V.ref e.1))) T (.lst [.ref a, .int ((d + 1 : Nat) : Int), .ref S])) := fun b o z => sT _ _ (sS _ _ z)
    have e1 : M.map (·.2) = N'.map (·.2) := by
      rw [eM]
      refine up_same T1.up up fun r => (mem r).trans ?_
      rw [(pm.map (·.2)).mem_iff, ← eM2]
      constructor
      · intro h
        obtain ⟨e, he, ee⟩ := List.mem_map.mp h
        exact List.mem_map.mpr ⟨e, he, kR_inj ee⟩
      · intro h
        obtain ⟨e, he, rfl⟩ := List.mem_map.mp h
        exact List.mem_map.mpr ⟨e, he, rfl⟩
    have RM5 := RM.to s5
    have RN5 := (RM2.perm pm).to s5
    have fM : (M.map fun e => V.ref e.1).length ≤ 1000 := by
      rw [List.length_map]
      have := RM.few
      omega
    refine ⟨[], .ref L, .ref T, rfl, .inr (.inl ⟨L, T, _, _, rfl, rfl, (by simp), (by simp), s5 _ _ hL, upd_same, .cons ?_ (.cons (Ex.leaf rfl) (.cons ?_ .nil)), (show 3 ≤ 1000 by decide)⟩), fun H6 s6 => k H6 fun b o z => s6 _ _ (s5 _ _ (s2 _ _ z))⟩
    · exact .inr (.inl ⟨A2, a, _, _, rfl, rfl, (by simp), (by simp), s5 _ _ hA, s5 _ _ (s2 _ _ ha), ex_strs _, by rw [List.length_map]; omega⟩)
    · exact .inr (.inl ⟨R2, S, _, _, rfl, rfl, (by simp), (by simp), s5 _ _ hR, sT _ _ upd_same, ex_rows e1 (fun e he => ⟨RM5.at_ e he, by rw [RM5.len e he]; omega⟩) (fun e he => RN5.at_ e he), fM⟩)
end
end Yt

set_option Elab.async false
set_option linter.all false
set_option maxRecDepth 100000
set_option maxHeartbeats 2000000
namespace Yt
open PySem PySem.Spec PyProof.Rows L2
abbrev sShuf : Stmt := top 39
/-- a list put in another order -/
def spShuf (K : PySem.W.Frag) : Sp := fun vs H Q _ => ∃ (p a : Addr) (f : Nat) (xs : List V), vs = [.ref p, .ref a] ∧ a ≠ p ∧ PurseAt H p (f + xs.length) ∧ SqL K H a xs ∧ xs.length ≤ 1000 ∧
  ∀ (L : Addr) (ys : List V) (H' : Hp), ys.Perm xs → H L = none → H' L = some (.lst ys) → PurseAt H' p f → But p H H' → Q (.ref L) H'
section
variable {P : Program} {w : World} {K : PySem.W.Frag} {mg : Str → Option Value} {base : Heap} {f : Addr} {fd : FuncData}
theorem scShuf : FnScope ["_law_purse_here", "_law_some", "_law_found", "_law_item"] ["_law_purse_here", "_law_some"] (defScope sShuf) := ⟨rfl, rfl, rfl, by decide +kernel, rfl, by decide +kernel, by decide +kernel⟩
theorem ok_shuf {fD : Addr} {fdD : FuncData} (F : FnP K "_law_shuffled" sShuf f fd) (T : Nm mg) (GD : FnOk P w K mg base CX0 2 fD fdD ["_law_purse_here", "_law_many"] spDraw) (bD : Binds K fdD ["_law_purse_here", "_law_many"] []) (kD : PySem.W.keepIn K (.ref fD) = true) (gD : mg "_law_draw" = some (.ref fD)) :
    FnOk P w K mg base CX0 3 f fd ["_law_purse_here", "_law_some"] (spShuf K) := by
  refine F.ok scShuf (fun vs H Q E h => ?_) (fun cdv A outer s H vs Q E hr h => ?_)
  · obtain ⟨p, a, g, xs, rfl, _⟩ := h
    rfl
  · obtain ⟨p, a, g, xs, rfl, ne, hP, hS, hl, k⟩ := h
    refine ⟨_, PSs.nox (pss_cons (ps_set (i := 2) scShuf.nd rfl (Or.inl rfl) (pe_lst pa_nil))
      (pss_cons (ps_for PassesOwn.never rfl (pi_list (pv 1)) (pg_name (i := 3) scShuf.nd rfl (Or.inl rfl))
        (pss_one (ps_expr (pe_bm PySem.F.plainAttrs_list PySem.F.slot_list_insert PySem.F.type_list_insert mt_insert (pv 2) (pa_cons (pe_call GD hr rfl gD kD bD .nil pass0 (pa_cons (pv 0) (pa_cons (pe_op op_add (pe_callB call_len (by rfl) T.len PySem.boot_len (pa_cons (pv 2) pa_nil)) pe_int) pa_nil))) (pa_cons (pv 3) pa_nil))))))
      (pss_one (ps_ret (pv 2))))), ?_⟩
    refine ⟨(by show 0 ≤ sizeLine; decide), fun L nL => ?_⟩
    have nLp : L ≠ p := fun z => by
      obtain ⟨x, y, c, t, e, _⟩ := hP
      rw [z, e] at nL
      cases nL
    have s1 := same_new (o := .lst []) nL
    refine ⟨_, rfl, a, rfl, ⟨_, s1.seq hS⟩, for_list (K := K) (a := a) (xs := xs) (fun i σ H2 => ∃ (v : Option V) (ys : List V), σ = [some (.ref p), some (.ref a), some (.ref L), v] ∧ ys.Perm (xs.take i) ∧ H2 L = some (.lst ys) ∧ PurseAt H2 p (g + (xs.length - i)) ∧ But p H H2)
      ⟨none, [], rfl, .refl _, upd_same, ?_, Same.but s1⟩ (fun i σ H2 _ ⟨_, _, _, _, _, _, h⟩ => h.seq ne hS) ?_ ?_⟩
    · exact hP.to fun o e => s1 _ _ e
    · rintro i u σ H2 hi ⟨v, ys, rfl, hp, hL, hP2, hB⟩
      have hlt : i < xs.length := (List.getElem?_eq_some_iff.mp hi).1
      have hys : ys.length = i := by
        rw [hp.length_eq, List.length_take]
        omega
      have hf : g + (xs.length - i) = (g + (xs.length - (i + 1))) + 1 := by omega
      rw [hf] at hP2
      refine ⟨_, rfl, .inl ⟨rfl, _, SqL.of hL⟩, _, rfl, _, rfl, _, ys.length, rfl, Or.inl ⟨_, SqL.of hL, rfl⟩, _, _, rfl, rfl, p, g + (xs.length - (i + 1)), _, rfl, hP2, ⟨by omega, by omega⟩, fun r H3 r0 r1 hP3 hB3 => ?_⟩
      have hL3 := hB3 _ _ nLp hL
      refine ⟨_, rfl, L, ys, r, u, rfl, rfl, hL3, ?_, r0, by omega, ?_⟩
      · rw [hys]
        show i < sizeLine
        rw [sizeLine_eq]
        omega
      · refine ⟨some u, _, rfl, ?_, upd_same, ?_, ?_⟩
        · have e1 : xs.take (i + 1) = xs.take i ++ [u] := by rw [List.take_add_one, hi] <;> rfl
          rw [e1, List.append_assoc]
          refine List.Perm.trans ?_ (List.Perm.append_right [u] hp)
          have h1 : (ys.take r.toNat ++ ([u] ++ ys.drop r.toNat)).Perm (u :: (ys.take r.toNat ++ ys.drop r.toNat)) := List.perm_middle
          rw [List.take_append_drop] at h1
          exact h1.trans (List.perm_append_singleton u ys).symm
        · exact hP3.to fun o e => (upd_ne nLp.symm).trans e
        · exact fun b o n e => (upd_ne (ne_of_none e nL)).trans (hB3 _ _ n (hB _ _ n e))
    · rintro σ H2 ⟨v, ys, rfl, hp, hL, hP2, hB⟩
      refine ⟨_, rfl, k L ys H2 ?_ nL hL ?_ hB⟩
      · rw [List.take_length] at hp
        exact hp
      · rw [Nat.sub_self] at hP2
        exact hP2
end
end Yt

set_option Elab.async false
set_option linter.all false
set_option maxRecDepth 100000
set_option maxHeartbeats 2000000
namespace Yt
open PySem PySem.Spec PyProof.Rows L2
abbrev sLChosen : Stmt := top 53
def forBody : Stmt → List Stmt
  | .For _ _ b _ _ => b
  | _ => []
abbrev noSt : Stmt := .Pass ⟨0, 0, 0, 0⟩
theorem pstW {X : Cx} {st : Stmt} {t t' : TS} (h : PS X st t) (k : ∀ D σ H, t' D σ H → t D σ H) : PS X st t' := ⟨fun pins s σ H D I q => h.run pins s σ H D I (k D σ H q)⟩
abbrev chN : List Str := ["_law_purse_here", "_law_marks_here", "_law_width", "_law_rows", "_law_some", "_law_held", "_law_table", "_law_turn", "_law_spots", "_law_lent", "_law_told", "_law_due", "_law_at", "_law_row_here", "_law_spot", "_law_two"]
abbrev stH (i : Nat) : Stmt := (defBody sLChosen).getD i noSt
abbrev stG (i : Nat) : Stmt := (forBody (stH 4)).getD i noSt
theorem scCho : FnScope chN ["_law_purse_here", "_law_marks_here", "_law_width", "_law_rows"] (defScope sLChosen) := ⟨rfl, rfl, rfl, by decide +kernel, rfl, by decide +kernel, by decide +kernel⟩
abbrev HX (P : Program) (w : World) (K : PySem.W.Frag) (mg : Str → Option Value) (base : Heap) (f : Addr) (cdv : Value) (A : Around) (outer : List Env) (s : Shared) (H : Hp) (E : XK) : Cx := (cxOf CX0 P w K mg base chN "_law_chosen_right" (defScope sLChosen) f cdv A outer s H E).nox
abbrev RoomH (A : Around) (s : Shared) (f : Addr) (cdv : Value) : Prop := Room 6 (A.deeper (envOfC "_law_chosen_right" (defScope sLChosen) s.heap.objs.size f cdv))
/-- a def as it stands: it is called by its name and keeps its promise -/
structure Cal (P : Program) (w : World) (K : PySem.W.Frag) (mg : Str → Option Value) (base : Heap) (x : Str) (k : Nat) (ps : List Str) (sp : Sp) : Prop where
  ex : ∃ f fd, FnOk P w K mg base CX0 k f fd ps sp ∧ Binds K fd ps [] ∧ PySem.W.keepIn K (.ref f) = true ∧ mg x = some (.ref f)
structure CalsH (P : Program) (w : World) (K : PySem.W.Frag) (mg : Str → Option Value) (base : Heap) (C : Addr) : Prop where
  tm : TM P w K mg base C
  draw : Cal P w K mg base "_law_draw" 2 ["_law_purse_here", "_law_many"] spDraw
  shuf : Cal P w K mg base "_law_shuffled" 3 ["_law_purse_here", "_law_some"] (spShuf K)
  chosen : Cal P w K mg base "chosen" 6 ["table", "spots"] (spChosen C)
  is : Cal P w K mg base "_law_is_table" 5 ["_law_table", "_law_marks_here", "_law_width", "_law_rows"] (spLIs C)
  isD : Cal P w K mg base "_law_is_table" 5 ["_law_table", "_law_marks_here", "_law_width", "_law_rows"] (spLIsD C)
  twos : Cal P w K mg base "_law_twos_of" 1 ["_law_width"] spTwos
  prows : Cal P w K mg base "_law_pair_rows" 1 ["_law_rows", "_law_one", "_law_other"] spLPairRows
  pairs : Cal P w K mg base "pairs_of" 2 ["table"] (spPairsOf C)
  exact_ : Cal P w K mg base "_law_exact" 4 ["_law_mine", "_law_theirs"] (spExact K 4)
abbrev scChR : Scope := { kind := .function, names := [(".0", .local), ("_law_row_here", .cell), ("tuple", .globalImplicit), ("_law_spots", .free)], isGenerator := false, isCoroutine := false, more := [] }
def tSpotL : TE := fun σ H Q => ∃ (v0 v1 v2 v3 v4 v5 v6 v7 v9 v10 v11 v12 v14 v15 : Option V) (l t : Addr) (ns : List Nat) (r : List Str), σ = [v0, v1, v2, v3, v4, v5, v6, v7, some (.ref l), v9, v10, v11, v12, some (.ref t), v14, v15] ∧ H l = some (.lst (spotsV ns)) ∧ H t = some (.tup (r.map V.str)) ∧ (∀ i ∈ ns, i < r.length) ∧ ns.length ≤ 4 ∧
  ∀ (T : Addr) (H' : Hp), H T = none → H' T = some (.tup ((spotted ns r).map V.str)) → Same H H' → Q (.ref T) H'
theorem spots_ints (ns : List Nat) : spotsV ns = (ns.map fun i => ((i : Nat) : Int)).map V.int := by
  rw [List.map_map]
  rfl
theorem merge_from {W : List (Addr × Addr × List Str)} {rs : List (List Str)} (hW : W.map (fun e => e.2.2) = rs) :
    ((mergeT [] ((W.map fun e => (e.2.1, kR e.2.2, V.bl true)).map (·.2))).map (·.1)).Nodup ∧ (mergeT [] ((W.map fun e => (e.2.1, kR e.2.2, V.bl true)).map (·.2))).length ≤ rs.length ∧
    ∀ k, k ∈ (mergeT [] ((W.map fun e => (e.2.1, kR e.2.2, V.bl true)).map (·.2))).map (·.1) ↔ ∃ x ∈ rs, k = kR x := by
  obtain ⟨nd, mk⟩ := merge_keys ((W.map fun e => (e.2.1, kR e.2.2, V.bl true)).map (·.2)) [] List.nodup_nil
  refine ⟨nd, ?_, fun k => ?_⟩
  · have h1 := mergeT_len ((W.map fun e => (e.2.1, kR e.2.2, V.bl true)).map (·.2)) []
    rw [List.length_map, List.length_map] at h1
    simp only [List.length_nil] at h1
    rw [← hW, List.length_map]
    omega
  · rw [mk k, ← hW]
    constructor
    · rintro (z | z)
      · cases z
      · rw [List.map_map, List.map_map] at z
        obtain ⟨e, he, rfl⟩ := List.mem_map.mp z
        exact ⟨e.2.2, List.mem_map.mpr ⟨e, he, rfl⟩, rfl⟩
    · rintro ⟨x, hx, rfl⟩
      obtain ⟨e, he, rfl⟩ := List.mem_map.mp hx
      refine .inr ?_
      rw [List.map_map, List.map_map]
      exact List.mem_map.mpr ⟨e, he, rfl⟩
section
variable {P : Program} {w : World} {K : PySem.W.Frag} {mg : Str → Option Value} {base : Heap} {f : Addr} {fd : FuncData} {cdv : Value} {A0 : Around} {outer : List Env} {s0 : Shared} {H0 : Hp} {E : XK} {C : Addr}
theorem st_c0 (Cs : CalsH P w K mg base C) (T : Nm mg) (hr : RoomH A0 s0 f cdv) : PS (HX P w K mg base f cdv A0 outer s0 H0 E) (stG 0)
    (fun D σ H => ∃ (v1 v3 v4 v5 v6 v7 v8 v9 v10 v11 v12 v13 v14 v15 : Option V) (p : Addr) (g d : Nat), σ = [some (.ref p), v1, some (.int ((d + 1 : Nat) : Int)), v3, v4, v5, v6, v7, v8, v9, v10, v11, v12, v13, v14, v15] ∧ d ≤ 3 ∧ PurseAt H p (g + 5) ∧
      ∀ (L : Addr) (ns : List Nat) (e : Nat) (H' : Hp), H' L = some (.lst (spotsV ns)) → ns.length = e + 1 → e ≤ 3 → (∀ i ∈ ns, i < d + 1) → L ≠ p → PurseAt H' p g → But p H H' → D.nx [some (.ref p), v1, some (.int ((d + 1 : Nat) : Int)), v3, v4, v5, v6, v7, some (.ref L), v9, v10, v11, v12, v13, v14, v15] H') := by
  obtain ⟨fD, dD, GD, bD, kD, gD⟩ := Cs.draw.ex
  refine pstW (ps_set (i := 8) scCho.nd rfl (Or.inr rfl) (pe_lc (own := [("_law_at", 12)]) (g := gName 12) (tt := tYes) rfl scCho.nd (pi_range1 rfl T.range (pa_cons (pe_op op_add pe_int (pe_call GD (hr.mono (by decide)) rfl gD kD bD .nil pass0 (pa_cons (pv 0) (pa_cons pe_int pa_nil)))) pa_nil)) (blkOk_by (own := [("_law_at", 12)]) (N := chN) (sc := defScope sLChosen) (by decide +kernel))
      (fun _ _ _ _ _ => pg_name (i := 12) scCho.nd rfl (Or.inl rfl)) (fun _ _ _ _ _ => pts_nil)
      (fun _ _ _ _ _ => pe_call GD (hr.mono (by decide)) rfl gD kD bD .nil pass0 (pa_cons (pv 0) (pa_cons (pv 2) pa_nil))))) fun D σ H h => ?_
  obtain ⟨v1, v3, v4, v5, v6, v7, v8, v9, v10, v11, v12, v13, v14, v15, p, g, d, rfl, d3, hP, k⟩ := h
  refine ⟨_, rfl, p, g + 4, _, rfl, hP, ⟨by decide, by decide⟩, fun r H1 r0 r1 hP1 hB1 => ⟨_, _, rfl, rfl, ?_⟩⟩
  have r4 : r < 4 := r1
  obtain ⟨e, he⟩ : ∃ e : Nat, r = e := ⟨r.toNat, by omega⟩
  have e3 : e ≤ 3 := by omega
  refine ⟨_, rfl, by omega, by omega, fun D1 hD => ?_⟩
  have nD := hP1.ne hD
  have en : ((1 : Int) + r).toNat = e + 1 := by omega
  rw [en]
  refine lc_range (lo := 0) (n := e + 1) (fun i Hx => ∃ ns : List Nat, ns.length = i ∧ (∀ j ∈ ns, j < d + 1) ∧ Hx D1 = some (.lst (spotsV ns)) ∧ PurseAt Hx p (g + 4 - i) ∧ But p H Hx) ⟨[], rfl, (fun j hj => nomatch hj), upd_same, hP1.at_ne nD, fun b o nb q => same_new hD _ _ (hB1 _ _ nb q)⟩ ?_ ?_
  · rintro i H3 hi ⟨ns, hl, hs, hDy, hP3, hB3⟩
    have e1 : g + 4 - i = g + 4 - (i + 1) + 1 := by omega
    rw [e1] at hP3
    refine ⟨rfl, ?_⟩
    refine ⟨_, rfl, _, rfl, p, g + 4 - (i + 1), _, rfl, hP3, ⟨by omega, by omega⟩, fun q H4 q0 q1 hP4 hB4 => ?_⟩
    have q1 : q < ((d + 1 : Nat) : Int) := q1
    refine ⟨_, hB4 _ _ nD hDy, by rw [List.length_map, sizeLine_eq]; omega, ns ++ [q.toNat], by rw [List.length_append, hl]; rfl, fun j hj => ?_, ?_, hP4.at_ne nD, fun b o nb z => (upd_ne fun y => ?_).trans (hB4 _ _ nb (hB3 _ _ nb z))⟩
    · rcases List.mem_append.mp hj with h | h
      · exact hs j h
      · rw [List.mem_singleton.mp h]
        omega
    · have eq : V.int q = V.int ((q.toNat : Nat) : Int) := by rw [Int.toNat_of_nonneg q0]
      rw [upd_same, eq]
      show _ = some (HO.lst ((ns ++ [q.toNat]).map _))
      rw [List.map_append]
      rfl
    · rw [y] at z
      have := hB1.none nD hD
      rw [z] at this
      cases this
  · rintro Hx ⟨ns, hl, hs, hDy, hPx, hBx⟩
    exact k D1 ns e Hx hDy hl e3 hs nD (hPx.less (by omega)) hBx
theorem st_c3 (Cs : CalsH P w K mg base C) (T : Nm mg) (T6 : Nm6 mg) (hr : RoomH A0 s0 f cdv) : PS (HX P w K mg base f cdv A0 outer s0 H0 E) (stG 3)
    (fun D σ H => ∃ (v0 v2 v4 v5 v6 v7 v11 v12 v13 v14 v15 : Option V) (A l L Lt x : Addr) (ms : List Str) (d e : Nat) (M : List (Addr × List Str)) (ns : List Nat) (ws : List (List Str)), σ = [v0, some (.ref A), v2, some (.ref l), v4, v5, v6, v7, some (.ref L), some (.ref Lt), some (.ref x), v11, v12, v13, v14, v15] ∧ H A = some (.lst (ms.map V.str)) ∧ ms.length ≤ 3 ∧ d ≤ 3 ∧ e ≤ 3 ∧ Rws H l ms d M ∧ M.length ≤ 7 ∧ H L = some (.lst (spotsV ns)) ∧ H Lt = some (.lst (spotsV ns)) ∧ ns.length = e + 1 ∧ (∀ i ∈ ns, i < d + 1) ∧ TableAt C H x ms e ws ∧ (∀ r, r ∈ ws ↔ r ∈ (M.map (·.2)).map (spotted ns)) ∧
      ∀ H', Same H H' → D.nx σ H') := by
  obtain ⟨fI, dI, GI, bI, kI, gI⟩ := Cs.isD.ex
  have hu4 := units4 hr
  refine pstW (ps_if (PW.pt (pw_or (pt_not (pt_val (pe_call GI (hr.mono (by decide)) rfl gI kI bI .nil pass0 (pa_cons (pv 10) (pa_cons (pv 1) (pa_cons (pe_callB call_len (by rfl) T.len PySem.boot_len (pa_cons (pv 8) pa_nil)) (pa_cons (pe_callTy (call_dictPT rfl (units_le hu4 (by decide))) (by rfl) T6.dict (by decide +kernel) (pa_cons
      (pe_lc (own := [("_law_row_here", 13)]) (g := gName 13) (tt := tYes) (te := tTup (tCons tSpotL (tCons (tC (.bl true)) tNil))) rfl scCho.nd (pi_list (pv 3)) (blkOk_by (own := [("_law_row_here", 13)]) (N := chN) (sc := defScope sLChosen) (by decide +kernel)) (fun _ _ _ _ _ => pg_name (i := 13) scCho.nd rfl (Or.inr rfl)) (fun _ _ _ _ _ => pts_nil)
        (fun _ _ _ _ _ => pe_tup (pa_cons (pexW (pe_callTy call_tuple_of (by rfl) T6.tuple (by decide +kernel) (pa_cons (pe_lc (own := [("_law_spot", 14)]) (g := gName 14) (tt := tYes) (te := tOp (rIxT K) (tVar 13) (tVar 14)) rfl scCho.nd (pi_list (pv 8)) (blkOk_by (own := [("_law_spot", 14)]) (N := chN) (sc := relS scChR (defScope sLChosen)) (by decide +kernel)) (fun _ _ _ _ _ => pg_name (i := 14) scCho.nd rfl (Or.inl rfl)) (fun _ _ _ _ _ => pts_nil) (fun _ _ _ _ _ => pe_ix ix_tup (pv 13) (pv 14) (fun _ _ => rfl))) pa_nil)) fun σ H Q hq => ?_) (pa_cons pe_bl pa_nil)))) pa_nil)) pa_nil))))))) (pw_or1 (pt_cmpR (op_neD hr.units) (pv 9) (pv 8) (nomark _))))) (pss_one (ps_ret pe_bl)) pss_nil) fun D σ H h => ?_
  · obtain ⟨v0, v1, v2, v3, v4, v5, v6, v7, v9, v10, v11, v12, v14, v15, l, t, ns, r, rfl, hl, ht, lt, n4, k⟩ := hq
    refine ⟨_, rfl, l, rfl, ⟨_, SqL.of hl⟩, fun D hD => ?_⟩
    refine lc_list (K := K) (a := l) (xs := spotsV ns) (fun i Hx => Hx D = some (.lst (((ns.take i).map (at_ r)).map V.str)) ∧ Same H Hx) ⟨upd_same, same_new hD⟩ (fun i Hx _ q => SqL.of (q.2 _ _ hl)) ?_ ?_
    · rintro i v Hx hv ⟨q1, q2⟩
      rw [List.getElem?_map] at hv
      obtain ⟨c, ec, rfl⟩ := Option.map_eq_some_iff.mp hv
      have hc := lt c (List.mem_of_getElem? ec)
      have hi : i < ns.length := (List.getElem?_eq_some_iff.mp ec).1
      refine ⟨rfl, ?_⟩
      refine ⟨_, rfl, _, rfl, t, r.map V.str, _, V.str (at_ r c), rfl, rfl, SqT.of (q2 _ _ ht), atI_nat (by rw [List.getElem?_map, at_get hc] <;> rfl), _, q1, ?_, ?_, fun b o z => (upd_ne (ne_of_none z hD)).trans (q2 _ _ z)⟩
      · rw [List.length_map, List.length_map, List.length_take]
        exact len_ok (by omega)
      · rw [upd_same, List.take_add_one, ec, List.map_append, List.map_append]
        rfl
    · rintro Hx ⟨q1, q2⟩
      have ll : (spotsV ns).length = ns.length := List.length_map _
      rw [ll, List.take_length] at q1
      exact ⟨D, _, rfl, .inl ⟨SqL.of q1, fun T nT => k T _ (none_back q2 nT) upd_same fun b o z => same_new nT _ _ (q2 _ _ z)⟩⟩
  · obtain ⟨v0, v2, v4, v5, v6, v7, v11, v12, v13, v14, v15, A, l, L, Lt, x, ms, d, e, M, ns, ws, rfl, hA, few, d3, e3, R, m7, hL, hLt, ln, lt, Tx, mw, k⟩ := h
    have ls : (spotsV ns).length = e + 1 := by rw [List.length_map, ln]
    refine ⟨_, rfl, _, rfl, _, rfl, _, (spotsV ns).length, rfl, Or.inl ⟨_, SqL.of hL, rfl⟩, _, rfl, l, rfl, ⟨_, SqL.of R.at_⟩, fun D1 hD => ?_⟩
    have lM : (M.map fun e => V.ref e.1).length = (M.map (·.2)).length := by rw [List.length_map, List.length_map]
    refine lc_list (K := K) (a := l) (xs := M.map fun e => V.ref e.1) (fun n Hx => ∃ W : List (Addr × Addr × List Str), W.map (fun e => e.2.2) = ((M.map (·.2)).take n).map (spotted ns) ∧ Hx D1 = some (.lst (W.map fun e => V.ref e.1)) ∧ (∀ e ∈ W, (e.1 ≠ D1 ∧ Hx e.1 = some (.tup [.ref e.2.1, .bl true])) ∧ e.2.1 ≠ D1 ∧ Hx e.2.1 = some (.tup (e.2.2.map V.str))) ∧ Same H Hx)
      ⟨[], rfl, upd_same, (fun e he => nomatch he), same_new hD⟩ (fun n Hx _ ⟨_, _, _, _, z⟩ => SqL.of (z _ _ R.at_)) ?_ ?_
    · rintro n y Hx ey ⟨W, hW, hDW, hWs, sx⟩
      rw [List.getElem?_map] at ey
      obtain ⟨u, hu, rfl⟩ := Option.map_eq_some_iff.mp ey
      have um := List.mem_of_getElem? hu
      have er : (M.map (·.2))[n]? = some u.2 := by rw [List.getElem?_map, hu] <;> rfl
      have hu1 := sx _ _ (R.inn.at_ u um)
      have lu := R.inn.len u um
      have lW : W.length ≤ 7 := by
        have := congrArg List.length hW
        rw [List.length_map, List.length_map, List.length_take, List.length_map] at this
        omega
      refine ⟨rfl, ?_⟩
      refine ⟨_, _, _, _, _, _, _, _, _, _, _, _, _, _, L, u.1, ns, u.2, rfl, sx _ _ hL, hu1, fun i hi => by rw [lu]; exact lt i hi, by omega, fun t H6 nt ht s6 => ?_⟩
      refine ⟨by show 2 ≤ sizeLine; decide, fun q nq => ?_⟩
      have sq := same_new (o := .tup [V.ref t, V.bl true]) nq
      have hD2 := sq _ _ (s6 _ _ hDW)
      have tD : t ≠ D1 := fun z => by
        rw [z, hDW] at nt
        cases nt
      have qD : q ≠ D1 := fun z => by
        rw [z, s6 _ _ hDW] at nq
        cases nq
      refine ⟨_, hD2, by rw [List.length_map, sizeLine_eq]; omega, W ++ [(q, t, spotted ns u.2)], ?_, by rw [upd_same, List.map_append]; rfl, fun e he => ?_, fun b o z => (upd_ne (ne_of_none z hD)).trans (sq _ _ (s6 _ _ (sx _ _ z)))⟩
      · rw [List.map_append, hW, List.take_add_one, er, List.map_append]
        rfl
      · rcases List.mem_append.mp he with he | he
        · obtain ⟨⟨a1, a2⟩, b1, b2⟩ := hWs e he
          exact ⟨⟨a1, (upd_ne a1).trans (sq _ _ (s6 _ _ a2))⟩, b1, (upd_ne b1).trans (sq _ _ (s6 _ _ b2))⟩
        · rw [List.mem_singleton.mp he]
          exact ⟨⟨qD, (upd_ne qD).trans upd_same⟩, tD, (upd_ne tD).trans (sq _ _ ht)⟩
    · rintro Hx ⟨W, hW, hDW, hWs, sx⟩
      rw [lM, List.take_length] at hW
      refine ⟨D1, W.map (·.1), W.map fun e => (e.2.1, kR e.2.2, V.bl true), rfl, SqL.of (by rw [List.map_map]; exact hDW), paired_maps fun e he => ⟨SqT.of (hWs e he).1.2, ?_⟩, fun q nq => ?_⟩
      · show Hx e.2.1 = some (.tup ((kR e.2.2).map kV))
        rw [kR_V]
        exact (hWs e he).2.2
      obtain ⟨nd, lenk, mk⟩ := merge_from hW
      have sq := same_new (o := .dT (mergeT [] ((W.map fun e => (e.2.1, kR e.2.2, V.bl true)).map (·.2)))) nq
      have s1 : Same H (upd Hx q (.dT (mergeT [] ((W.map fun e => (e.2.1, kR e.2.2, V.bl true)).map (·.2))))) := fun b o z => sq _ _ (sx _ _ z)
      refine ⟨x, A, q, ms, e, ws, _, by rw [ls]; rfl, Tx.to s1, s1 _ _ hA, upd_same, nd, ?_, fun u hu => ?_, fun r => ?_, few, e3, fun H6 s6 => ⟨true, rfl, iteF ?_⟩⟩
      · rw [List.length_map, List.length_map] at lenk
        omega
      · obtain ⟨y, hy, er⟩ := (mk u.1).mp (List.mem_map.mpr ⟨u, hu, rfl⟩)
        obtain ⟨r, hr, rfl⟩ := List.mem_map.mp hy
        exact ⟨_, er, by unfold spotted; rw [List.length_map, ln]⟩
      · rw [mw, mk]
        exact ⟨fun h => ⟨r, h, rfl⟩, fun ⟨y, hy, ey⟩ => by rw [kR_inj ey]; exact hy⟩
      · have s06 : Same H H6 := fun b o z => s6 _ _ (s1 _ _ z)
        have h1 := s06 _ _ hLt
        have h2 := s06 _ _ hL
        rw [spots_ints] at h1 h2
        refine ⟨_, rfl, _, rfl, intsD _, intsD _, .lst (SqL.of h1) (dp_ints _), .lst (SqL.of h2) (dp_ints _), ints_shaped _, ints_shaped _, false, ?_, iteF (k H6 s06)⟩
        show V.bl (!PyData.eqvAll _ _) = _
        rw [eqv_ints]
        rfl
end
end Yt

set_option Elab.async false
set_option linter.all false
set_option maxRecDepth 100000
set_option maxHeartbeats 2000000
namespace Yt
open PySem PySem.Spec PyProof.Rows L2
theorem cut_first (xs : List V) (a : Nat) : cutV xs none (some (a : Int)) = xs.take a := by
  unfold cutV
  rw [HT.sIx_none, HT.sIx_nat, List.drop_zero, Nat.sub_zero]
  rcases Nat.le_total a xs.length with h | h
  · rw [Nat.min_eq_left h]
  · rw [Nat.min_eq_right h, List.take_length, List.take_of_length_le h]
theorem TableAt.butP {C : Addr} {H H' : Hp} {p q : Addr} {g : Nat} {ms : List Str} {d : Nat} {rs : List (List Str)} (T : TableAt C H q ms d rs) (hP : PurseAt H p g) (b : But p H H') : TableAt C H' q ms d rs := T.but hP b
theorem TableAt.butI {C : Addr} {H H' : Hp} {p q : Addr} {i : Int} {xs : List V} {ms : List Str} {d : Nat} {rs : List (List Str)} (T : TableAt C H q ms d rs) (hq : H p = some (.lst (V.int i :: xs))) (b : But p H H') : TableAt C H' q ms d rs := by
  have k : ∀ {a : Addr} {o : HO}, H a = some o → o ≠ .lst (V.int i :: xs) → H' a = some o := fun {a o} e ne => b _ _ (fun z => by
    rw [z, hq] at e
    exact ne (Option.some.inj e).symm) e
  obtain ⟨dx, A, R, M, h1, h2, h3, h4, h5⟩ := T
  refine ⟨dx, A, R, M, k h1 (fun z => nomatch z), k h2 (fun z => ?_), k h3 (fun z => ?_), ⟨fun e he => k (h4.at_ e he) (fun z => nomatch z), h4.len, h4.few⟩, h5⟩
  · cases ms with
    | nil => cases z
    | cons m ms => cases z
  · cases M with
    | nil => cases z
    | cons m M => cases z
/-- Table(..), whatever follows -/
theorem make_tableA {C : Addr} {H : Hp} {a l : Addr} {d : Nat} {ms : List Str} {M0 : List (Addr × List Str)} {Q : Addr → Hp → Prop} {E : XK} (ha : H a = some (.lst (ms.map V.str))) (ok : MarksOk ms) (hd : d ≤ 3) (hl : H l = some (.lst (M0.map fun e => V.ref e.1))) (hR : RowsIn H d M0) (over : ∀ e ∈ M0, ∀ z ∈ e.2, z ∈ ms)
    (k : ∀ (p : Addr) (H' : Hp) (rs : List (List Str)), H p = none → (∀ r, r ∈ rs ↔ r ∈ M0.map (·.2)) → TableAt C H' p ms d rs → Same H H' → Q p H') :
    ∀ x dx, H x = none → H dx = none → dx ≠ x → spTInit C (.ref x :: ([.ref a, .int ((d + 1 : Nat) : Int), .ref l] ++ [])) (upd (upd H dx (.own x)) x (.ins C dx [])) (fun v H2 => v = .non ∧ Q x H2) E := by
  intro x dx nx ndx ne
  have s : Same H (upd (upd H dx (.own x)) x (.ins C dx [])) := fun b o e => by
    rw [upd_ne (ne_of_none e nx), upd_ne (ne_of_none e ndx)]
    exact e
  exact ⟨x, dx, a, l, d, ms, M0, rfl, upd_same, s _ _ ha, ok, hd, s _ _ hl, hR.to s, over, fun H' rs mem T _ b => ⟨rfl, k x H' rs nx mem T fun c o e => b _ _ (ne_of_none e nx) (s _ _ e)⟩⟩
theorem ex_strsA {H : Hp} {n : Nat} {A : List Addr} : ∀ zs : List Str, Paired (Ex H n A) (zs.map V.str) (zs.map V.str)
  | [] => .nil
  | z :: zs => .cons (Ex.leaf rfl) (ex_strsA zs)
theorem ex_rowsA {H : Hp} {n : Nat} {A : List Addr} : ∀ {M N : List (Addr × List Str)}, M.map (·.2) = N.map (·.2) → (∀ e ∈ M, e.1 ∉ A ∧ H e.1 = some (.tup (e.2.map V.str)) ∧ e.2.length ≤ 1000) → (∀ e ∈ N, e.1 ∉ A ∧ H e.1 = some (.tup (e.2.map V.str))) → Paired (Ex H (n + 1) A) (M.map fun e => V.ref e.1) (N.map fun e => V.ref e.1)
  | [], [], _, _, _ => .nil
  | [], _ :: _, h, _, _ => by cases h
  | _ :: _, [], h, _, _ => by cases h
  | e :: M, u :: N, h, h1, h2 => by
    rw [List.map_cons, List.map_cons, List.cons.injEq] at h
    obtain ⟨a1, a2, a3⟩ := h1 e (List.mem_cons_self ..)
    obtain ⟨b1, b2⟩ := h2 u (List.mem_cons_self ..)
    refine .cons (.inr (.inr (.inl ⟨e.1, u.1, e.2.map V.str, e.2.map V.str, rfl, rfl, a1, b1, a2, ?_, ex_strsA _, ?_⟩))) (ex_rowsA h.2 (fun x hx => h1 x (List.mem_cons_of_mem _ hx)) fun x hx => h2 x (List.mem_cons_of_mem _ hx))
    · rw [h.1]
      exact b2
    · rw [List.length_map]
      exact a3
theorem paired_keys {κ β : Type} {R : κ × β → κ × β → Prop} : ∀ {m l : List (κ × β)}, m.map (·.1) = l.map (·.1) → (∀ p ∈ m, ∀ q ∈ l, p.1 = q.1 → R p q) → Paired R m l
  | [], [], _, _ => .nil
  | [], _ :: _, h, _ => by cases h
  | _ :: _, [], h, _ => by cases h
  | p :: m, q :: l, h, k => by
    rw [List.map_cons, List.map_cons, List.cons.injEq] at h
    exact .cons (k p (List.mem_cons_self ..) q (List.mem_cons_self ..) h.1) (paired_keys h.2 fun x hx y hy => k x (List.mem_cons_of_mem _ hx) y (List.mem_cons_of_mem _ hy))
/-- two dictionaries of the same pairs are the same data -/
theorem ex_pairs {H : Hp} {a b : Addr} {d : Nat} {rs : List (List Str)} (d3 : d ≤ 3) (ne : a ≠ b) (h1 : PairsAt H a d rs) (h2 : PairsAt H b d rs) : Ex H 3 [] (.ref a) (.ref b) := by
  obtain ⟨m, a1, a2, a3⟩ := h1
  obtain ⟨l, b1, b2, b3⟩ := h2
  have lk : m.length ≤ 10 := by
    have := congrArg List.length a2
    rw [List.length_map, List.length_map] at this
    rw [this]
    match d, d3 with
    | 0, _ => decide
    | 1, _ => decide
    | 2, _ => decide
    | 3, _ => decide
  have neT : ∀ {q : Addr} {xs : List V}, H q = some (.tup xs) → q ∉ [a] := fun {q xs} e z => by
    rw [List.mem_singleton.mp z, a1] at e
    cases e
  have neL : ∀ {q : Addr} {xs : List V}, H q = some (.lst xs) → q ∉ [a] := fun {q xs} e z => by
    rw [List.mem_singleton.mp z, a1] at e
    cases e
  refine .inr (.inr (.inr ⟨a, b, m, l, rfl, rfl, ne, (by simp), (by simp), a1, b1, paired_keys (a2.trans b2.symm) fun p hp q hq e => ?_, by omega, Nat.le_refl _, ?_⟩))
  · obtain ⟨i, j, L, N, rfl, c1, c2, c3, c4⟩ := a3 p hp
    obtain ⟨i', j', L', N', rfl, e1, e2, e3, e4⟩ := b3 q hq
    have ij : (i, j) = (i', j') := KV2_inj (p := (i, j)) (q := (i', j')) e
    cases ij
    have eN : N.map (·.2) = N'.map (·.2) := up_same c4 e4 fun r => (c3 r).trans (e3 r).symm
    refine ⟨rfl, by show 2 ≤ 1000; decide, .inr (.inl ⟨L, L', _, _, rfl, rfl, neL c1, neL e1, c1, e1, ex_rowsA eN (fun u hu => ⟨neT (c2.at_ u hu), c2.at_ u hu, by rw [c2.len u hu]; decide⟩) fun u hu => ⟨neT (e2.at_ u hu), e2.at_ u hu⟩, ?_⟩)⟩
    rw [List.length_map]
    have := c2.few
    omega
  · rw [a2]
    exact List.pairwise_map.mpr (List.Pairwise.imp (fun {p q} hpq e => hpq (KV2_inj (p := p) (q := q) e)) (twosN_nodup d3))
theorem PairsAt.to {H H' : Hp} {D : Addr} {d : Nat} {rs : List (List Str)} (h : PairsAt H D d rs) (s : Same H H') : PairsAt H' D d rs := by
  obtain ⟨kvs, h1, h2, h3⟩ := h
  refine ⟨kvs, s _ _ h1, h2, fun e he => ?_⟩
  obtain ⟨i, j, L, N, e1, e2, e3, e4⟩ := h3 e he
  exact ⟨i, j, L, N, e1, s _ _ e2, e3.to s, e4⟩
section
variable {P : Program} {w : World} {K : PySem.W.Frag} {mg : Str → Option Value} {base : Heap} {f : Addr} {fd : FuncData} {cdv : Value} {A0 : Around} {outer : List Env} {s0 : Shared} {H0 : Hp} {E : XK} {C : Addr}
theorem st_b5 (Cs : CalsH P w K mg base C) (T6 : Nm6 mg) (hr : RoomH A0 s0 f cdv) : PS (HX P w K mg base f cdv A0 outer s0 H0 E) (stH 5)
    (fun D σ H => ∃ (v0 v1 v4 v5 v6 v7 v8 v9 v10 v11 v12 v13 v14 v15 : Option V) (l : Addr) (d : Nat) (M : List (Addr × List Str)), σ = [v0, v1, some (.int ((d + 1 : Nat) : Int)), some (.ref l), v4, v5, v6, v7, v8, v9, v10, v11, v12, v13, v14, v15] ∧ RowsAt H l M ∧ (∀ e ∈ M, e.2.length = d + 1) ∧ d ≤ 3 ∧ M.length ≤ 81 ∧
      ∀ (D' : Addr) (H' : Hp), PairsAt H' D' d (M.map (·.2)) → Same H H' → D.nx [v0, v1, some (.int ((d + 1 : Nat) : Int)), some (.ref l), v4, v5, v6, v7, v8, v9, v10, some (.ref D'), v12, v13, v14, v15] H') := by
  obtain ⟨f2, d2, G2, b2, k2, g2⟩ := Cs.twos.ex
  obtain ⟨fP, dP, GP, bP, kP, gP⟩ := Cs.prows.ex
  have hu4 := units4 hr
  refine pstW (ps_set (i := 11) scCho.nd rfl (Or.inl rfl) (pe_callTy (call_dictPT rfl (units_le hu4 (by decide))) (by rfl) T6.dict (by decide +kernel) (pa_cons
        (pe_lc (own := [("_law_two", 15)]) (g := gName 15) (tt := tYes) (te := tTup (tCons (tVar 15) (tCons (tCall spLPairRows [] E0 (tCons (tVar 3) (tCons (tOp (rIxT K) (tVar 15) (tC (.int 0))) (tCons (tOp (rIxT K) (tVar 15) (tC (.int 1))) tNil)))) tNil))) rfl scCho.nd (pi_list (pe_call G2 (hr.mono (by decide)) rfl g2 k2 b2 .nil pass0 (pa_cons (pv 2) pa_nil))) (blkOk_by (own := [("_law_two", 15)]) (N := chN) (sc := defScope sLChosen) (by decide +kernel))
          (fun _ _ _ _ _ => pg_name (i := 15) scCho.nd rfl (Or.inl rfl)) (fun _ _ _ _ _ => pts_nil)
          (fun _ _ _ _ _ => pe_tup (pa_cons (pv 15) (pa_cons (pe_call GP (hr.mono (by decide)) rfl gP kP bP .nil pass0 (pa_cons (pv 3) (pa_cons (pe_ix ix_tup (pv 15) pe_int (fun _ _ => rfl)) (pa_cons (pe_ix ix_tup (pv 15) pe_int (fun _ _ => rfl)) pa_nil)))) pa_nil)))) pa_nil))) fun D0 σ H h => ?_
  obtain ⟨v0, v1, v4, v5, v6, v7, v8, v9, v10, v11, v12, v13, v14, v15, l, d, M, rfl, hl, len, d3, m81, k⟩ := h
  refine ⟨_, rfl, d, rfl, d3, fun L2 M2 H2 nL2 hL2 eM2 hM2 s2 => ⟨L2, rfl, ⟨_, SqL.of hL2⟩, fun D hD => ?_⟩⟩
  have ml : (M2.map fun e => V.ref e.1).length = (twosN (d + 1)).length := by rw [← eM2, List.length_map, List.length_map]
  have few2 : (twosN (d + 1)).length ≤ 10 := by
    match d, d3 with
    | 0, _ => decide
    | 1, _ => decide
    | 2, _ => decide
    | 3, _ => decide
  refine lc_list (K := K) (a := L2) (xs := M2.map fun e => V.ref e.1) (fun n Hx => ∃ W : List (Addr × Addr × (Nat × Nat) × Addr), W.map (fun e => e.2.2.1) = (twosN (d + 1)).take n ∧ Hx D = some (.lst (W.map fun e => V.ref e.1)) ∧
      (∀ e ∈ W, Hx e.1 = some (.tup [.ref e.2.1, .ref e.2.2.2]) ∧ Hx e.2.1 = some (.tup [.int (e.2.2.1.1 : Nat), .int (e.2.2.1.2 : Nat)]) ∧ e.2.2.2 ≠ D ∧ ∃ N : List (Addr × List Str), Hx e.2.2.2 = some (.lst (N.map fun e => V.ref e.1)) ∧ RowsIn Hx 1 N ∧ (∀ x, x ∈ N.map (·.2) ↔ x ∈ (M.map (·.2)).map (two e.2.2.1.1 e.2.2.1.2)) ∧ Up (N.map (·.2))) ∧ Same H2 Hx)
    ⟨[], rfl, upd_same, (fun e he => nomatch he), same_new hD⟩ (fun i Hx _ ⟨_, _, _, _, z⟩ => SqL.of (z _ _ hL2)) ?_ ?_
  · rintro n x Hx hx ⟨W, hW, hDW, hWs, sx⟩
    rw [List.getElem?_map] at hx
    obtain ⟨e, he, rfl⟩ := Option.map_eq_some_iff.mp hx
    have em := List.mem_of_getElem? he
    have er : (twosN (d + 1))[n]? = some e.2 := by rw [← eM2, List.getElem?_map, he] <;> rfl
    obtain ⟨ij, jd⟩ := twosN_mem.mp (List.mem_of_getElem? er)
    have ht := sx _ _ (hM2 e em)
    have lW : W.length ≤ 10 := by
      have := congrArg List.length hW
      rw [List.length_map, List.length_take] at this
      omega
    have s2x : Same H Hx := fun b o z => sx _ _ (s2 _ _ z)
    refine ⟨rfl, ?_⟩
    refine ⟨_, rfl, _, rfl, _, rfl, e.1, _, _, V.int (e.2.1 : Nat), rfl, rfl, SqT.of ht, rfl, _, rfl, e.1, _, _, V.int (e.2.2 : Nat), rfl, rfl, SqT.of ht, rfl, ?_⟩
    refine ⟨l, e.2.1, e.2.2, d, M, rfl, hl.to s2x, len, by omega, jd, by omega, fun L N H5 nL hL RN mN uN s5 => ?_⟩
    have LD : L ≠ D := fun z => by
      rw [z, hDW] at nL
      cases nL
    refine ⟨by show 2 ≤ sizeLine; decide, fun q nq => ?_⟩
    have sq := same_new (o := .tup [V.ref e.1, V.ref L]) nq
    have sxq : Same Hx (upd H5 q (.tup [V.ref e.1, V.ref L])) := fun b o z => sq _ _ (s5 _ _ z)
    have hDq := sxq _ _ hDW
    have upD : ∀ {b : Addr} {o : HO} {l' : List V}, (∀ m, o ≠ .lst m) → (upd H5 q (.tup [V.ref e.1, V.ref L])) b = some o → (upd (upd H5 q (.tup [V.ref e.1, V.ref L])) D (.lst l')) b = some o := fun {b o l'} ne z => (upd_ne (fun y => by
      rw [y, hDq] at z
      exact ne _ (Option.some.inj z).symm)).trans z
    have upR : ∀ {N : List (Addr × List Str)} {l' : List V}, RowsIn (upd H5 q (.tup [V.ref e.1, V.ref L])) 1 N → RowsIn (upd (upd H5 q (.tup [V.ref e.1, V.ref L])) D (.lst l')) 1 N := fun {N l'} R => ⟨fun e he => upD (by intro m z; cases z) (R.at_ e he), R.len, R.few⟩
    refine ⟨_, hDq, by rw [List.length_map, sizeLine_eq]; omega, W ++ [(q, e.1, e.2, L)], ?_, by rw [upd_same, List.map_append]; rfl, fun u hu => ?_, fun b o z => (upd_ne (ne_of_none z hD)).trans (sxq _ _ (sx _ _ z))⟩
    · rw [List.map_append, hW, List.take_add_one, er]
      rfl
    · rcases List.mem_append.mp hu with hu | hu
      · obtain ⟨a1, a2, a3, N', a4, a5, a6⟩ := hWs u hu
        exact ⟨upD (by intro m z; cases z) (sxq _ _ a1), upD (by intro m z; cases z) (sxq _ _ a2), a3, N', (upd_ne a3).trans (sxq _ _ a4), upR (a5.to sxq), a6⟩
      · rw [List.mem_singleton.mp hu]
        exact ⟨upD (by intro m z; cases z) upd_same, upD (by intro m z; cases z) (sxq _ _ ht), LD, N, (upd_ne LD).trans (sq _ _ hL), upR (RN.to sq), mN, uN⟩
  · rintro Hx ⟨W, hW, hDW, hWs, sx⟩
    rw [ml, List.take_length] at hW
    refine ⟨D, W.map (·.1), W.map fun e => (e.2.1, KV2 e.2.2.1.1 e.2.2.1.2, V.ref e.2.2.2), rfl, SqL.of (by rw [List.map_map]; exact hDW), paired_maps fun e he => ⟨SqT.of (hWs e he).1, (hWs e he).2.1⟩, fun q nq => ?_⟩
    have ekeys : ((W.map fun e => (e.2.1, KV2 e.2.2.1.1 e.2.2.1.2, V.ref e.2.2.2)).map (·.2)).map (·.1) = (twosN (d + 1)).map fun p => KV2 p.1 p.2 := by
      rw [← hW, List.map_map, List.map_map, List.map_map]
      rfl
    have knd : (((W.map fun e => (e.2.1, KV2 e.2.2.1.1 e.2.2.1.2, V.ref e.2.2.2)).map (·.2)).map (·.1)).Nodup := by
      rw [ekeys]
      exact List.pairwise_map.mpr (List.Pairwise.imp (fun {p q} hpq e => hpq (KV2_inj (p := p) (q := q) e)) (twosN_nodup d3))
    rw [mergeT_unlike _ [] knd, List.nil_append]
    have sq := same_new (o := .dT ((W.map fun e => (e.2.1, KV2 e.2.2.1.1 e.2.2.1.2, V.ref e.2.2.2)).map (·.2))) nq
    refine k q _ ⟨_, upd_same, ekeys, fun e he => ?_⟩ fun b o z => sq _ _ (sx _ _ (s2 _ _ z))
    rw [List.map_map] at he
    obtain ⟨u, hu, rfl⟩ := List.mem_map.mp he
    obtain ⟨a1, a2, a3, N', a4, a5, a6⟩ := hWs u hu
    exact ⟨_, _, _, N', rfl, sq _ _ a4, a5.to sq, a6⟩
theorem st_b7 (Cs : CalsH P w K mg base C) (hr : RoomH A0 s0 f cdv) : PS (HX P w K mg base f cdv A0 outer s0 H0 E) (stH 7)
    (fun D σ H => ∃ (v0 v1 v2 v3 v4 v5 v6 v7 v8 v9 v12 v13 v14 v15 : Option V) (x D' : Addr) (d : Nat) (rs : List (List Str)), σ = [v0, v1, v2, v3, v4, v5, v6, v7, v8, v9, some (.ref x), some (.ref D'), v12, v13, v14, v15] ∧ d ≤ 3 ∧ x ≠ D' ∧ PairsAt H x d rs ∧ PairsAt H D' d rs ∧
      ∀ H', Same H H' → D.nx σ H') := by
  obtain ⟨fX, dX, GX, bX, kX, gX⟩ := Cs.exact_.ex
  refine pstW (ps_if (pt_not (pt_val (pe_call GX (hr.mono (by decide)) rfl gX kX bX .nil pass0 (pa_cons (pv 10) (pa_cons (pv 11) pa_nil))))) (pss_one (ps_ret pe_bl)) pss_nil) fun D σ H h => ?_
  obtain ⟨v0, v1, v2, v3, v4, v5, v6, v7, v8, v9, v12, v13, v14, v15, x, D', d, rs, rfl, d3, ne, h1, h2, k⟩ := h
  exact ⟨_, rfl, _, rfl, [], .ref x, .ref D', rfl, ex_pairs d3 ne h1 h2, fun H1 s1 => ⟨true, rfl, iteF (k H1 s1)⟩⟩
end
end Yt

set_option Elab.async false
set_option linter.all false
set_option maxRecDepth 100000
set_option maxHeartbeats 2000000
namespace Yt
open PySem PySem.Spec PyProof.Rows L2
theorem spotted_over {ms : List Str} {d : Nat} {ns : List Nat} {r : List Str} (len : r.length = d + 1) (lt : ∀ i ∈ ns, i < d + 1) (o : ∀ z ∈ r, z ∈ ms) : ∀ z ∈ spotted ns r, z ∈ ms := fun z hz => by
  obtain ⟨i, hi, rfl⟩ := List.mem_map.mp hz
  exact o _ (List.mem_of_getElem? (at_get (by rw [len]; exact lt i hi)))
def spLChosen : Sp := fun vs H Q _ => ∃ (p a l : Addr) (g d : Nat) (ms : List Str) (M : List (Addr × List Str)), vs = [.ref p, .ref a, .int ((d + 1 : Nat) : Int), .ref l] ∧ PurseAt H p (g + 30) ∧ H a = some (.lst (ms.map V.str)) ∧ MarksOk ms ∧ ms.length ≤ 3 ∧ d ≤ 3 ∧ Rws H l ms d M ∧ M.length ≤ 7 ∧
  ∀ H', PurseAt H' p g → But p H H' → Q (.bl true) H'
section
variable {P : Program} {w : World} {K : PySem.W.Frag} {mg : Str → Option Value} {base : Heap} {f : Addr} {fd : FuncData} {C : Addr}
theorem ok_lchosen (F : FnP K "_law_chosen_right" sLChosen f fd) (Cs : CalsH P w K mg base C) (T : Nm mg) (T6 : Nm6 mg) : FnOk P w K mg base CX0 7 f fd ["_law_purse_here", "_law_marks_here", "_law_width", "_law_rows"] spLChosen := by
  obtain ⟨fS, dS, GS, bS, kS, gS⟩ := Cs.shuf.ex
  obtain ⟨fC, dC, GC, bC, kC, gC⟩ := Cs.chosen.ex
  obtain ⟨fP, dP, GP, bP, kP, gP⟩ := Cs.pairs.ex
  obtain ⟨fX, dX, GX, bX, kX, gX⟩ := Cs.exact_.ex
  obtain ⟨fJ, dJ, GJ, bJ, kJ, gJ⟩ := Cs.is.ex
  obtain ⟨fI, dI, GI, bI, mk⟩ := Cs.tm.ini
  obtain ⟨fR, dR, GR, bR, mR⟩ := Cs.tm.rows
  obtain ⟨fE, dE, GE, bE, hE, iE⟩ := Cs.tm.eq
  have TT := Cs.tm.tc
  refine F.ok scCho (fun vs H Q E h => ?_) (fun cdv A outer s H vs Q E hr h => ?_)
  · obtain ⟨p, a, l, g, d, ms, M, rfl, _⟩ := h
    rfl
  · obtain ⟨p, a, l, g, d, ms, M, rfl, hP, ha, ok, few, d3, R, m7, k⟩ := h
    have hu := hu_of hr
    refine ⟨_, PSs.nox (pss_cons (ps_set (i := 4) scCho.nd rfl (Or.inl rfl) (pe_call GS (hr.mono (by decide)) rfl gS kS bS .nil pass0 (pa_cons (pv 0) (pa_cons (pe_op op_cat (pv 3) (pe_slice sl_list (pv 3) po_none (po_some pe_int))) pa_nil))))
      (pss_cons (ps_set (i := 5) scCho.nd rfl (Or.inl rfl) (pe_callTy call_list_of (by rfl) T6.list (by decide +kernel) (pa_cons (pv 4) pa_nil)))
      (pss_cons (ps_set (i := 6) scCho.nd rfl (Or.inl rfl) (pe_make mk GI (hr.mono (by decide)) rfl TT.mgC bI .nil pass0 (pa_cons (pv 1) (pa_cons (pv 2) (pa_cons (pv 4) pa_nil)))))
      (pss_cons (ps_if (pt_cmpR (op_neD hr.units) (pv 4) (pv 5) (nomark _)) (pss_one (ps_ret pe_bl)) pss_nil)
      (pss_cons (ps_for PassesOwn.never rfl (pi_range1 rfl T.range (pa_cons pe_int pa_nil)) (pg_name (i := 7) scCho.nd rfl (Or.inl rfl))
        (pss_cons (st_c0 Cs T hr)
        (pss_cons (ps_set (i := 9) scCho.nd rfl (Or.inl rfl) (pe_callTy call_list_of (by rfl) T6.list (by decide +kernel) (pa_cons (pv 8) pa_nil)))
        (pss_cons (ps_set (i := 10) scCho.nd rfl (Or.inl rfl) (pe_call GC hr rfl gC kC bC .nil pass0 (pa_cons (pv 6) (pa_cons (pv 9) pa_nil))))
        (pss_cons (st_c3 Cs T T6 hr)
        (pss_cons (ps_expr (pe_bm PySem.F.plainAttrs_list PySem.F.slot_list_append PySem.F.type_list_append mt_append (pv 9) (pa_cons pe_int pa_nil)))
        (pss_cons (ps_expr (pe_bm PySem.F.plainAttrs_list PySem.F.slot_list_append PySem.F.type_list_append mt_append (pe_meth0 (pv 10) TT.cl mR GR (hr.mono (by decide)) bR .nil pass0) (pa_cons pe_non pa_nil)))
        (pss_one (ps_if (pt_not (pt_cmpR (op_eqOwn GE hE iE bE pass0 (hr.mono (by decide))) (pe_call GC hr rfl gC kC bC .nil pass0 (pa_cons (pv 6) (pa_cons (pv 8) pa_nil))) (pv 10) (nomark _))) (pss_one (ps_ret pe_bl)) pss_nil)))))))))
      (pss_cons (st_b5 Cs T6 hr)
      (pss_cons (ps_set (i := 10) scCho.nd rfl (Or.inl rfl) (pe_call GP (hr.mono (by decide)) rfl gP kP bP .nil pass0 (pa_cons (pv 6) pa_nil)))
      (pss_cons (st_b7 Cs hr)
      (pss_cons (ps_expr (pe_bm PySem.F.plainAttrs_list PySem.F.slot_list_append PySem.F.type_list_append mt_append (pe_dget hu (pv 10) (pe_tup (pa_cons pe_int (pa_cons pe_int pa_nil))) (fun _ _ => rfl)) (pa_cons pe_non pa_nil)))
      (pss_one (ps_ret (pe_and (pe_call GX (hr.mono (by decide)) rfl gX kX bX .nil pass0 (pa_cons (pe_call GP (hr.mono (by decide)) rfl gP kP bP .nil pass0 (pa_cons (pv 6) pa_nil)) (pa_cons (pv 11) pa_nil)))
        (pe_one (pe_call GJ (hr.mono (by decide)) rfl gJ kJ bJ .nil pass0 (pa_cons (pv 6) (pa_cons (pv 1) (pa_cons (pv 2) (pa_cons (pv 3) pa_nil)))))))))))))))))), ?_⟩
    have an := purse_ne hP ha
    have lM : (M.map fun e => V.ref e.1).length = M.length := List.length_map _
    -- rows + rows[:2], shuffled
    refine ⟨_, rfl, _, rfl, _, rfl, ((2 : Nat) : Int), rfl, l, _, rfl, SqL.of R.at_, fun q1 n1 => ?_⟩
    rw [cut_first]
    have u1 := same_new (o := .lst ((M.map fun e => V.ref e.1).take 2)) n1
    refine ⟨l, q1, _, _, rfl, rfl, u1 _ _ R.at_, upd_same, by rw [List.length_map, List.length_take, List.length_map, sizeLine_eq]; omega, fun q2 n2 => ?_⟩
    have u2 := same_new (o := .lst ((M.map fun e => V.ref e.1) ++ (M.map fun e => V.ref e.1).take 2)) n2
    have b2 := upd_same (H := upd H q1 (.lst ((M.map fun e => V.ref e.1).take 2))) (a := q2) (o := .lst ((M.map fun e => V.ref e.1) ++ (M.map fun e => V.ref e.1).take 2))
    have u12 : Same H (upd (upd H q1 (.lst ((M.map fun e => V.ref e.1).take 2))) q2 (.lst ((M.map fun e => V.ref e.1) ++ (M.map fun e => V.ref e.1).take 2))) := fun b o z => u2 _ _ (u1 _ _ z)
    generalize upd (upd H q1 (.lst ((M.map fun e => V.ref e.1).take 2))) q2 (.lst ((M.map fun e => V.ref e.1) ++ (M.map fun e => V.ref e.1).take 2)) = H1 at b2 u12 ⊢
    have hP1 : PurseAt H1 p (g + 30) := hP.to fun o z => u12 _ _ z
    have e12 : ((M.map fun e => V.ref e.1) ++ (M.map fun e => V.ref e.1).take 2) = (M ++ M.take 2).map fun e => V.ref e.1 := by rw [List.map_append, List.map_take]
    rw [e12] at b2
    have l12 : (M ++ M.take 2).length ≤ 9 := by
      rw [List.length_append, List.length_take]
      omega
    refine ⟨p, q2, g + 20, _, rfl, purse_nr hP1 b2, hP1.less (by rw [List.length_map]; omega), SqL.of b2, by rw [List.length_map]; omega, fun S ys H2 pm nS hS hP2 hB2 => ?_⟩
    obtain ⟨M', rfl, pM⟩ := map_perm (f := fun e : Addr × List Str => V.ref e.1) pm (M ++ M.take 2) rfl
    have R1 := R.to u12
    have R2 := R1.but hP1 hB2
    have ha2 := hB2 _ _ an (u12 _ _ ha)
    have memM : ∀ e ∈ M', e ∈ M := fun e he => by
      rcases List.mem_append.mp (pM.mem_iff.mp he) with h | h
      · exact h
      · exact List.mem_of_mem_take h
    have hM' : ∀ e ∈ M', H2 e.1 = some (.tup (e.2.map V.str)) := fun e he => R2.inn.at_ e (memM e he)
    have lM' : M'.length ≤ 9 := by
      rw [pM.length_eq]
      exact l12
    -- held
    refine ⟨_, rfl, S, _, rfl, .inl (SqL.of hS), fun Hd nHd => ?_⟩
    have u3 := same_new (o := .lst (M'.map fun e => V.ref e.1)) nHd
    have b3 := upd_same (H := H2) (a := Hd) (o := .lst (M'.map fun e => V.ref e.1))
    generalize upd H2 Hd (.lst (M'.map fun e => V.ref e.1)) = H3 at u3 b3 ⊢
    -- table
    refine ⟨_, rfl, _, rfl, _, rfl, ?_⟩
    refine make_tableA (C := C) (d := d) (u3 _ _ ha2) ok d3 (u3 _ _ hS) ⟨fun e he => u3 _ _ (hM' e he), fun e he => R.inn.len e (memM e he), by omega⟩ (fun e he => R.over e.2 (List.mem_map.mpr ⟨e, memM e he, rfl⟩)) fun tb H4 rs ntb mr Tb u4 => ?_
    have mem_ : ∀ r, r ∈ M'.map (·.2) ↔ r ∈ M.map (·.2) := fun r => by
      constructor
      · intro h
        obtain ⟨e, he, rfl⟩ := List.mem_map.mp h
        exact List.mem_map.mpr ⟨e, memM e he, rfl⟩
      · intro h
        obtain ⟨e, he, rfl⟩ := List.mem_map.mp h
        exact List.mem_map.mpr ⟨e, pM.mem_iff.mpr (List.mem_append_left _ he), rfl⟩
    obtain rfl : rs = M.map (·.2) := up_same Tb.up R.up fun r => (mr r).trans (mem_ r)
    have u24 : Same H2 H4 := fun b o z => u4 _ _ (u3 _ _ z)
    have hM4 : ∀ e ∈ M', H4 e.1 = some (.tup (e.2.map V.str)) := fun e he => u24 _ _ (hM' e he)
    have wM : ∀ r ∈ M'.map (·.2), ∀ z ∈ r, WordOk z := fun r hr z hz => ok.2.2.2 z (R.over r ((mem_ r).mp hr) z hz)
    refine ⟨_, rfl, _, rfl, rowsD (M'.map (·.2)), rowsD (M'.map (·.2)), .lst (SqL.of (u24 _ _ hS)) (dp_rows hM4), .lst (SqL.of (u4 _ _ b3)) (dp_rows hM4), rows_shaped wM, rows_shaped wM, false, ?_, ?_⟩
    · show V.bl (!PyData.eqvAll _ _) = _
      rw [eqv_rows, decide_eq_true rfl]
      rfl
    refine iteF ?_
    have R4 := R2.to u24
    have ha4 := u24 _ _ ha2
    have hP4 : PurseAt H4 p (g + 20) := hP2.to fun o z => u24 _ _ z
    have hB4 : But p H H4 := fun b o nb z => u24 _ _ (hB2 _ _ nb (u12 _ _ z))
    -- four turns
    refine ⟨_, rfl, by decide, by decide, for_range (lo := 0) (n := (4 : Int).toNat) (fun i σ Hc => ∃ (v7 v8 v9 v10 v11 v12 v13 v14 v15 : Option V), σ = [some (.ref p), some (.ref a), some (.int ((d + 1 : Nat) : Int)), some (.ref l), some (.ref S), some (.ref Hd), some (.ref tb), v7, v8, v9, v10, v11, v12, v13, v14, v15] ∧ PurseAt Hc p (g + 5 * (4 - i)) ∧ But p H4 Hc)
      ⟨_, _, _, _, _, _, _, _, _, rfl, hP4, fun _ _ _ z => z⟩ ?_ ?_⟩
    · rintro i σ Hc hi ⟨v7, v8, v9, v10, v11, v12, v13, v14, v15, rfl, hPc, hBc⟩
      have hi : i < 4 := hi
      have e5 : g + 5 * (4 - i) = (g + 5 * (4 - (i + 1))) + 5 := by omega
      rw [e5] at hPc
      refine ⟨_, _, _, _, _, _, _, _, _, _, _, _, _, _, p, _, d, rfl, d3, hPc, fun L ns e K1 hL ln e3 lt nLp hPd hBd => ?_⟩
      have hB1 : But p H4 K1 := fun b o nb z => hBd _ _ nb (hBc _ _ nb z)
      have R5 := R4.but hP4 hB1
      have T5 := Tb.butP hP4 hB1
      have ha5 := hB1 _ _ an ha4
      -- lent
      refine ⟨_, rfl, L, _, rfl, .inl (SqL.of hL), fun Lt nLt => ?_⟩
      have w1 := same_new (o := .lst (spotsV ns)) nLt
      have c1 := upd_same (H := K1) (a := Lt) (o := .lst (spotsV ns))
      generalize upd K1 Lt (.lst (spotsV ns)) = K2 at w1 c1 ⊢
      refine ⟨_, rfl, _, rfl, tb, Lt, ms, d, e, _, ns, rfl, T5.to w1, ok, few, d3, R.over, c1, ln, e3, lt, fun x K3 ws nx mw Tx w2 => ?_⟩
      have w12 : Same K1 K3 := fun b o z => w2 _ _ (w1 _ _ z)
      have ow : Over ms ws := fun r hr => by
        obtain ⟨u, hu, rfl⟩ := List.mem_map.mp ((mw r).mp hr)
        exact spotted_over (R.ok u hu).1 lt (R.over u hu)
      refine ⟨_, _, _, _, _, _, _, _, _, _, _, a, l, L, Lt, x, ms, d, e, M, ns, ws, rfl, w12 _ _ ha5, few, d3, e3, R5.to w12, m7, w12 _ _ hL, w2 _ _ c1, ln, lt, Tx, mw, fun K4 w3 => ?_⟩
      have w13 : Same K1 K4 := fun b o z => w3 _ _ (w12 _ _ z)
      have hLt4 := w3 _ _ (w2 _ _ c1)
      -- lent.append(9)
      refine ⟨_, rfl, .inl ⟨rfl, _, SqL.of hLt4⟩, Lt, _, _, rfl, rfl, hLt4, by rw [List.length_map, sizeLine_eq]; omega, ?_⟩
      have w14 : Same K1 (upd K4 Lt (.lst (spotsV ns ++ [V.int 9]))) := fun b o z => (upd_ne (ne_of_none z nLt)).trans (w13 _ _ z)
      have Tx4 : TableAt C (upd K4 Lt (.lst (spotsV ns ++ [V.int 9]))) x ms e ws := by
        obtain ⟨n0, ns', rfl⟩ : ∃ n0 ns', ns = n0 :: ns' := by
          cases ns with
          | nil => cases ln
          | cons n0 ns' => exact ⟨n0, ns', rfl⟩
        exact (Tx.to w3).butI hLt4 fun b o nb z => (upd_ne nb).trans z
      generalize upd K4 Lt (.lst (spotsV ns ++ [V.int 9])) = K5 at w14 Tx4 ⊢
      -- told.rows().append(None)
      obtain ⟨dx, A1, R1', M1, g1, _⟩ := id Tx4
      refine ⟨_, rfl, x, dx, _, rfl, g1, no_attr (by decide +kernel), x, ms, e, ws, rfl, Tx4, fun L6 M6 K6 nL6 hL6 R6 e6 w6 => ?_⟩
      have l6 : M6.length ≤ 1000 := by
        have := R6.few
        omega
      refine ⟨.inl ⟨rfl, _, SqL.of hL6⟩, L6, _, _, rfl, rfl, hL6, by rw [List.length_map, sizeLine_eq]; omega, ?_⟩
      have w57 : Same K5 (upd K6 L6 (.lst ((M6.map fun e => V.ref e.1) ++ [V.non]))) := fun b o z => (upd_ne (ne_of_none z nL6)).trans (w6 _ _ z)
      generalize upd K6 L6 (.lst ((M6.map fun e => V.ref e.1) ++ [V.non])) = K7 at w57 ⊢
      have w17 : Same K1 K7 := fun b o z => w57 _ _ (w14 _ _ z)
      -- chosen again
      refine ⟨_, rfl, _, rfl, tb, L, ms, d, e, _, ns, rfl, T5.to w17, ok, few, d3, R.over, w17 _ _ hL, ln, e3, lt, fun y K8 vs ny mv Ty w8 => ?_⟩
      have Tx8 := (Tx4.to w57).to w8
      have ov : Over ms vs := fun r hr => by
        obtain ⟨u, hu, rfl⟩ := List.mem_map.mp ((mv r).mp hr)
        exact spotted_over (R.ok u hu).1 lt (R.over u hu)
      have ev : vs = ws := up_same Ty.up Tx8.up fun r => (mv r).trans (mw r).symm
      obtain ⟨dy, A2, R2', M2, g2, _⟩ := id Ty
      obtain ⟨dz, A3, R3', M3, g3, _⟩ := id Tx8
      refine ⟨_, rfl, y, x, dy, dz, _, _, rfl, rfl, g2, g3, y, x, ms, ms, e, e, vs, ws, rfl, Ty, Tx8, Over.words ov ok, Over.words ow ok, true, ?_, ?_⟩
      · rw [decide_eq_true ⟨rfl, rfl, ev⟩]
      refine iteF ?_
      exact ⟨_, _, _, _, _, _, _, _, _, rfl, hPd.to fun o z => w8 _ _ (w17 _ _ z), fun b o nb z => w8 _ _ (w17 _ _ (hB1 _ _ nb z))⟩
    · rintro σ Hc ⟨v7, v8, v9, v10, v11, v12, v13, v14, v15, rfl, hPc, hBc⟩
      have R5 := R4.but hP4 hBc
      have T5 := Tb.butP hP4 hBc
      have ha5 := hBc _ _ an ha4
      refine ⟨_, _, _, _, _, _, _, _, _, _, _, _, _, _, l, d, M, rfl, R5.rows, R5.inn.len, d3, by omega, fun D' K1 PD w1 => ?_⟩
      have l81 : (M.map (·.2)).length ≤ 81 := by
        rw [List.length_map]
        omega
      refine ⟨_, rfl, tb, ms, d, _, rfl, T5.to w1, d3, l81, fun x kvs K2 nx PX hx fresh w2 => ?_⟩
      have xD : x ≠ D' := fun z => by
        obtain ⟨kk, h1, _⟩ := PD
        rw [z, h1] at nx
        cases nx
      refine ⟨_, _, _, _, _, _, _, _, _, _, _, _, _, _, x, D', d, _, rfl, d3, xD, PX, PD.to w2, fun K3 w3 => ?_⟩
      have hx3 := w3 _ _ hx
      -- the list at (0, 0)
      obtain ⟨kk, k1, k2, k3⟩ := PX
      obtain rfl : kk = kvs := by
        rw [k1] at hx
        exact HO.dT.inj (Option.some.inj hx)
      have k00 : KV2 0 0 ∈ kk.map (·.1) := by
        rw [k2]
        exact List.mem_map.mpr ⟨(0, 0), twosN_mem.mpr ⟨Nat.le_refl _, by show 0 < d + 1; omega⟩, rfl⟩
      obtain ⟨ee, he, e0⟩ := List.mem_map.mp k00
      obtain ⟨i, j, L0, N0, rfl, hL0, RN0, _, _⟩ := k3 ee he
      have knd : (kk.map (·.1)).Nodup := by
        rw [k2]
        exact List.pairwise_map.mpr (List.Pairwise.imp (fun {p q} hpq e => hpq (KV2_inj (p := p) (q := q) e)) (twosN_nodup d3))
      obtain ⟨n, hn⟩ := List.mem_iff_getElem?.mp he
      have e0 : KV2 i j = KV2 0 0 := e0
      have hv : valV kk (KV2 0 0) = some (.ref L0) := by
        rw [← e0]
        exact valV_at knd hn
      have fL0 := fresh _ he L0 rfl
      refine ⟨_, rfl, (by show 2 ≤ sizeLine; decide), fun t nt => ?_⟩
      have st := same_new (o := .tup [V.int 0, V.int 0]) nt
      have dg := DGet.t (k := KV2 0 0) (st _ _ hx3) (upd_same (H := K3) (a := t) (o := .tup [V.int 0, V.int 0]))
      rw [hv] at dg
      have hL04 := st _ _ (w3 _ _ hL0)
      have lN0 : N0.length ≤ 1000 := by
        have := RN0.few
        omega
      refine ⟨x, .ref L0, rfl, dg, .inl ⟨rfl, _, SqL.of hL04⟩, L0, _, _, rfl, rfl, hL04, by rw [List.length_map, sizeLine_eq]; omega, ?_⟩
      have w14 : Same K1 (upd (upd K3 t (.tup [V.int 0, V.int 0])) L0 (.lst ((N0.map fun e => V.ref e.1) ++ [V.non]))) := fun b o z => (upd_ne (ne_of_none z fL0)).trans (st _ _ (w3 _ _ (w2 _ _ z)))
      generalize upd (upd K3 t (.tup [V.int 0, V.int 0])) L0 (.lst ((N0.map fun e => V.ref e.1) ++ [V.non])) = K4 at w14 ⊢
      have wc4 : Same Hc K4 := fun b o z => w14 _ _ (w1 _ _ z)
      have PD4 := PD.to w14
      -- pairs_of again
      refine ⟨_, rfl, tb, ms, d, _, rfl, T5.to wc4, d3, l81, fun y kvs2 K5 ny PY hy _ w5 => ?_⟩
      have yD : y ≠ D' := fun z => by
        obtain ⟨kk, h1, _⟩ := PD4
        rw [z, h1] at ny
        cases ny
      refine ⟨_, rfl, [], .ref y, .ref D', rfl, ex_pairs d3 yD PY (PD4.to w5), fun K6 w6 => ⟨true, rfl, ?_⟩⟩
      refine iteT ?_
      have wc6 : Same Hc K6 := fun b o z => w6 _ _ (w5 _ _ (wc4 _ _ z))
      have R6 := R5.to wc6
      refine ⟨_, rfl, _, rfl, _, rfl, _, rfl, tb, a, l, ms, d, _, M, rfl, T5.to wc6, wc6 _ _ ha5, R6.at_, R6.inn, R6.up.nodup, fun r => Iff.rfl, few, d3, fun K7 w7 => ?_⟩
      have wc7 : Same Hc K7 := fun b o z => w7 _ _ (wc6 _ _ z)
      exact k K7 ((hPc.less (by omega)).to fun o z => wc7 _ _ z) fun b o nb z => wc7 _ _ (hBc _ _ nb (hB4 _ _ nb z))
end
end Yt

set_option Elab.async false
set_option linter.all false
set_option maxRecDepth 100000
set_option maxHeartbeats 2000000
namespace Yt
open PySem PySem.Spec PyProof.Rows L2
theorem rlt_app : ∀ {x y : List Str} (a b : List Str), rlt x y = true → x.length = y.length → rlt (x ++ a) (y ++ b) = true
  | [], [], _, _, h, _ => by cases h
  | [], _ :: _, _, _, h, _ => by cases h
  | _ :: _, [], _, _, h, _ => by cases h
  | x :: xs, y :: ys, a, b, h, l => by
    have h : (if x = y then rlt xs ys else ltCps x.cps.toList y.cps.toList) = true := h
    show (if x = y then rlt (xs ++ a) (ys ++ b) else ltCps x.cps.toList y.cps.toList) = true
    by_cases e : x = y
    · rw [if_pos e] at h ⊢
      exact rlt_app a b h (Nat.succ.inj l)
    · rw [if_neg e] at h ⊢
      exact h
theorem rlt_pre : ∀ (x : List Str) {a b : Str}, ltCps a.cps.toList b.cps.toList = true → rlt (x ++ [a]) (x ++ [b]) = true
  | [], a, b, h => by
    show (if a = b then rlt [] [] else ltCps a.cps.toList b.cps.toList) = true
    by_cases e : a = b
    · rw [e, lt_irr] at h
      cases h
    · rw [if_neg e]
      exact h
  | x :: xs, a, b, h => by
    show (if x = x then rlt (xs ++ [a]) (xs ++ [b]) else _) = true
    rw [if_pos rfl]
    exact rlt_pre xs h
theorem rowsN_up {ms : List Str} (h : Asc ms) : ∀ n, Up (rowsN ms n)
  | 0 => List.pairwise_singleton _ _
  | n + 1 => by
    have ih := rowsN_up h n
    have hl : ∀ r ∈ rowsN ms n, r.length = n := fun r hr => ((rowsN_mem ms n r).mp hr).1
    show Up ((rowsN ms n).flatMap fun r => ms.map fun c => r ++ [c])
    generalize rowsN ms n = L at ih hl
    induction L with
    | nil => exact List.Pairwise.nil
    | cons r L ihL =>
      rw [List.flatMap_cons]
      obtain ⟨h1, h2⟩ := List.pairwise_cons.mp ih
      refine List.pairwise_append.mpr ⟨List.pairwise_map.mpr (List.Pairwise.imp (fun {a b} q => rlt_pre r q) h), ihL h2 fun u hu => hl u (List.mem_cons_of_mem _ hu), fun a ha b hb => ?_⟩
      obtain ⟨c, _, rfl⟩ := List.mem_map.mp ha
      obtain ⟨u, hu, hb⟩ := List.mem_flatMap.mp hb
      obtain ⟨e, _, rfl⟩ := List.mem_map.mp hb
      exact rlt_app _ _ (h1 u hu) (by rw [hl r (List.mem_cons_self ..), hl u (List.mem_cons_of_mem _ hu)])
end Yt

set_option Elab.async false
set_option linter.all false
set_option maxRecDepth 100000
set_option maxHeartbeats 2000000
namespace Yt
open PySem PySem.Spec PyProof.Rows L2
abbrev sLaw : Stmt := top 54
abbrev stP : Stmt := (defBody sLaw).getD 0 noSt
abbrev stA (i : Nat) : Stmt := (forBody ((forBody stP).getD 1 noSt)).getD i noSt
abbrev stB (i : Nat) : Stmt := (forBody ((forBody stP).getD 2 noSt)).getD i noSt
abbrev stS (i : Nat) : Stmt := (forBody (stA 8)).getD i noSt
abbrev stQ (i : Nat) : Stmt := (forBody (stB 3)).getD i noSt
abbrev stC (i : Nat) : Stmt := (forBody stP).getD (3 + i) noSt
abbrev lawN : List Str := ["_law_script", "_law_purse_here", "_law_marks_here", "_law_width", "_law_rows", "_law_other", "_law_one", "_law_late", "_law_both", "_law_third", "_law_some", "_law_fellow", "_law_due", "_law_turn", "_law_mine", "_law_theirs", "_law_first", "_law_last", "_law_told", "_law_lent", "_law_table", "_law_row_here", "_law_mark"]
theorem scLaw : FnScope lawN ["_law_script"] (defScope sLaw) := ⟨rfl, rfl, rfl, by decide +kernel, rfl, by decide +kernel, by decide +kernel⟩
abbrev LX (P : Program) (w : World) (K : PySem.W.Frag) (mg : Str → Option Value) (base : Heap) (f : Addr) (cdv : Value) (A : Around) (outer : List Env) (s : Shared) (H : Hp) (E : XK) : Cx := (cxOf CX0 P w K mg base lawN "law" (defScope sLaw) f cdv A outer s H E).nox
abbrev RoomL (A : Around) (s : Shared) (f : Addr) (cdv : Value) : Prop := Room 8 (A.deeper (envOfC "law" (defScope sLaw) s.heap.objs.size f cdv))
structure CalsL (P : Program) (w : World) (K : PySem.W.Frag) (mg : Str → Option Value) (base : Heap) (C : Addr) : Prop where
  tm : TM P w K mg base C
  purses : Cal P w K mg base "_law_purses" 2 ["_law_script", "_law_few"] (spPurses K)
  draw : Cal P w K mg base "_law_draw" 2 ["_law_purse_here", "_law_many"] spDraw
  marks : Cal P w K mg base "_law_marks" 5 ["_law_purse_here", "_law_many"] spMarks
  drawn : Cal P w K mg base "_law_drawn_rows" 5 ["_law_purse_here", "_law_marks_here", "_law_width", "_law_most"] spLDrawn
  every : Cal P w K mg base "_law_every" 1 ["_law_marks_here", "_law_width"] spLEvery
  is : Cal P w K mg base "_law_is_table" 5 ["_law_table", "_law_marks_here", "_law_width", "_law_rows"] (spLIs C)
  exact_ : Cal P w K mg base "_law_exact" 4 ["_law_mine", "_law_theirs"] (spExact K 4)
  chain : Cal P w K mg base "_law_chain_rows" 1 ["_law_one", "_law_other"] spLChain
  pairT : Cal P w K mg base "_law_pair_of_tables" 6 ["_law_purse_here", "_law_marks_here"] spLPairT
  right : Cal P w K mg base "_law_chosen_right" 7 ["_law_purse_here", "_law_marks_here", "_law_width", "_law_rows"] spLChosen
  full : Cal P w K mg base "full" 6 ["marks", "width"] (spFull C)
  like_ : Cal P w K mg base "like" 6 ["marks"] (spLike C)
  cut : Cal P w K mg base "cut" 6 ["one", "other"] (spCut C)
  lies : Cal P w K mg base "lies_in" 4 ["one", "other"] (spLies C)
  turned : Cal P w K mg base "turned" 6 ["table"] (spTurned C)
  chained : Cal P w K mg base "chained" 6 ["one", "other"] (spChained C)
/-- marks -/
structure Mks (H : Hp) (A : Addr) (ms : List Str) : Prop where
  a : H A = some (.lst (ms.map V.str))
  ok : MarksOk ms
  few : ms.length ≤ 3
theorem Mks.to {H H' : Hp} {A : Addr} {ms : List Str} (h : Mks H A ms) (s : Same H H') : Mks H' A ms := ⟨s _ _ h.a, h.ok, h.few⟩
theorem Mks.but {H H' : Hp} {A p : Addr} {g : Nat} {ms : List Str} (h : Mks H A ms) (hP : PurseAt H p g) (b : But p H H') : Mks H' A ms := ⟨b _ _ (purse_ne hP h.a) h.a, h.ok, h.few⟩
theorem inBoth_sub {us rs : List (List Str)} : inBoth us rs = rs ↔ ∀ r ∈ rs, r ∈ us := by
  unfold inBoth
  rw [List.filter_eq_self]
  exact ⟨fun h r hr => of_decide_eq_true (h r hr), fun h r hr => decide_eq_true (h r hr)⟩
theorem eqv_rowsD (a b : List (List Str)) : PyData.eqv (rowsD a) (rowsD b) = decide (a = b) := by
  show PyData.eqvAll _ _ = _
  exact eqv_rows a b
theorem same_bl {b c : Bool} {p : Prop} (h : b = true ↔ p) (g : c = true ↔ p) : b = c := by
  rw [Bool.eq_iff_iff]
  exact h.trans g.symm
theorem inn_filter {H : Hp} {L D : Addr} {ms : List Str} {d : Nat} {us : List (List Str)} {M N : List (Addr × List Str)} (R : Rws H L ms d M) (hN : RowsAt H D N) (e : N.map (·.2) = inBoth us (M.map (·.2))) : RowsIn H d N ∧ (N.map (·.2)).Nodup := by
  have sub : ∀ u ∈ N, u.2 ∈ M.map (·.2) := fun u hu => (inBoth_mem.mp (by rw [← e]; exact List.mem_map.mpr ⟨u, hu, rfl⟩ : u.2 ∈ inBoth us (M.map (·.2)))).1
  refine ⟨⟨hN.2, fun u hu => (R.ok _ (sub u hu)).1, ?_⟩, ?_⟩
  · have h1 := congrArg List.length e
    have h2 := List.length_filter_le (fun r => decide (r ∈ us)) (M.map (·.2))
    rw [List.length_map] at h1 h2
    have := R.inn.few
    unfold inBoth at h1
    omega
  · rw [e]
    exact R.up.nodup.sublist List.filter_sublist
theorem words_of {H : Hp} {A L : Addr} {ms : List Str} {d : Nat} {M : List (Addr × List Str)} (S : Mks H A ms) {H' : Hp} (R : Rws H' L ms d M) : ∀ r ∈ M.map (·.2), ∀ z ∈ r, WordOk z := fun r hr z hz => S.ok.2.2.2 z (R.over r hr z hz)
section
variable {P : Program} {w : World} {K : PySem.W.Frag} {mg : Str → Option Value} {base : Heap} {f : Addr} {fd : FuncData} {cdv : Value} {A0 : Around} {outer : List Env} {s0 : Shared} {H0 : Hp} {E : XK} {C : Addr}
theorem st_full (Cs : CalsL P w K mg base C) (hr : RoomL A0 s0 f cdv) : PS (LX P w K mg base f cdv A0 outer s0 H0 E) (stA 2)
    (fun D σ H => ∃ (v0 v1 v4 v5 v6 v7 v8 v9 v10 v11 v12 v13 v14 v15 v16 v17 v18 v19 v20 v21 v22 : Option V) (A : Addr) (ms : List Str) (d : Nat), σ = [v0, v1, some (.ref A), some (.int ((d + 1 : Nat) : Int)), v4, v5, v6, v7, v8, v9, v10, v11, v12, v13, v14, v15, v16, v17, v18, v19, v20, v21, v22] ∧ Mks H A ms ∧ d ≤ 3 ∧ ∀ H', Same H H' → D.nx σ H') := by
  obtain ⟨fI, dI, GI, bI, kI, gI⟩ := Cs.is.ex
  obtain ⟨fF, dF, GF, bF, kF, gF⟩ := Cs.full.ex
  obtain ⟨fE, dE, GE, bE, kE, gE⟩ := Cs.every.ex
  refine pstW (ps_if (pt_not (pt_val (pe_call GI (hr.mono (by decide)) rfl gI kI bI .nil pass0 (pa_cons (pe_call GF (hr.mono (by decide)) rfl gF kF bF .nil pass0 (pa_cons (pv 2) (pa_cons (pv 3) pa_nil))) (pa_cons (pv 2) (pa_cons (pv 3) (pa_cons (pe_call GE (hr.mono (by decide)) rfl gE kE bE .nil pass0 (pa_cons (pv 2) (pa_cons (pv 3) pa_nil))) pa_nil))))))) (pss_one (ps_ret pe_bl)) pss_nil) fun D σ H h => ?_
  obtain ⟨v0, v1, v4, v5, v6, v7, v8, v9, v10, v11, v12, v13, v14, v15, v16, v17, v18, v19, v20, v21, v22, A, ms, d, rfl, S, d3, k⟩ := h
  refine ⟨_, rfl, _, rfl, A, ms, d, rfl, S.a, S.ok, S.few, d3, fun p H1 rs np mr T1 s1 => ?_⟩
  refine ⟨_, rfl, _, rfl, _, rfl, _, rfl, A, ms, d + 1, rfl, s1 _ _ S.a, S.few, by omega, fun L M H2 nL hL eM s2 => ?_⟩
  have s02 : Same H H2 := fun b o z => s2 _ _ (s1 _ _ z)
  have lM : M.length ≤ 81 := by
    have := congrArg List.length eM
    rw [List.length_map, rowsN_len] at this
    rw [this]
    exact Nat.le_trans (Nat.pow_le_pow_left S.few _) (Nat.le_trans (Nat.pow_le_pow_right (by decide) (show d + 1 ≤ 4 by omega)) (by decide))
  have inM : ∀ e ∈ M, e.2.length = d + 1 := fun e he => ((rowsN_mem ms (d + 1) e.2).mp (by rw [← eM]; exact List.mem_map.mpr ⟨e, he, rfl⟩)).1
  exact ⟨p, A, L, ms, d, rs, M, rfl, T1.to s2, s02 _ _ S.a, hL.1, ⟨hL.2, inM, by omega⟩, by rw [eM]; exact (rowsN_up S.ok.2.2.1 _).nodup, fun r => by rw [mr, eM, rowsN_mem], S.few, d3, fun H3 s3 => ⟨true, rfl, iteF (k H3 fun b o z => s3 _ _ (s02 _ _ z))⟩⟩
theorem st_both (hr : RoomL A0 s0 f cdv) : PS (LX P w K mg base f cdv A0 outer s0 H0 E) (stA 5)
    (fun D σ H => ∃ (v0 v1 v2 v3 v6 v7 v8 v9 v10 v11 v12 v13 v14 v15 v16 v17 v18 v19 v20 v21 v22 : Option V) (L O : Addr) (M N : List (Addr × List Str)), σ = [v0, v1, v2, v3, some (.ref L), some (.ref O), v6, v7, v8, v9, v10, v11, v12, v13, v14, v15, v16, v17, v18, v19, v20, v21, v22] ∧ RowsAt H L M ∧ RowsAt H O N ∧ M.length ≤ 81 ∧ ∀ (D' : Addr) (W : List (Addr × List Str)) (H' : Hp), RowsAt H' D' W → W.map (·.2) = inBoth (N.map (·.2)) (M.map (·.2)) → Same H H' → D.nx [v0, v1, v2, v3, some (.ref L), some (.ref O), v6, v7, some (.ref D'), v9, v10, v11, v12, v13, v14, v15, v16, v17, v18, v19, v20, v21, v22] H') := by
  have hu := hu_of hr
  refine pstW (ps_setLc (i := 8) (own := [("_law_row_here", 21)]) (g := gName 21) (tt := tTest (tOp (rInRows K) (tVar 21) (tVar 5))) (te := tVar 21) rfl scLaw.nd rfl rfl (sw_true rfl rfl rfl (by decide +kernel)) (pi_list (pv 4)) (blkOk_by (own := [("_law_row_here", 21)]) (N := lawN) (sc := defScope sLaw) (by decide +kernel))
    (fun _ _ _ _ _ => pg_name (i := 21) scLaw.nd rfl (Or.inl rfl)) (fun _ _ _ _ _ => pts_one (pt_cmpR (op_in_rows hu) (pv 21) (pv 5) (by rfl))) (fun _ _ _ _ _ => pv 21)) fun D σ H h => ?_
  obtain ⟨v0, v1, v2, v3, v6, v7, v8, v9, v10, v11, v12, v13, v14, v15, v16, v17, v18, v19, v20, v21, v22, L, O, M, N, rfl, hL, hO, l81, k⟩ := h
  refine ⟨_, rfl, L, rfl, ⟨_, SqL.of hL.1⟩, fun D' hD => ?_⟩
  have lM : (M.map fun e => V.ref e.1).length = (M.map (·.2)).length := by rw [List.length_map, List.length_map]
  refine lc_list (K := K) (a := L) (xs := M.map fun e => V.ref e.1) (fun j Hx => Built D' H (inBoth (N.map (·.2)) ((M.map (·.2)).take j)) Hx) (Built.first hD) (fun j Hx _ ⟨_, _, _, _, z⟩ => SqL.of (z _ _ hL.1)) ?_ ?_
  · rintro j v Hy ey hB
    rw [List.getElem?_map] at ey
    obtain ⟨u, hu, rfl⟩ := Option.map_eq_some_iff.mp ey
    have um := List.mem_of_getElem? hu
    have er : (M.map (·.2))[j]? = some u.2 := by rw [List.getElem?_map, hu] <;> rfl
    obtain ⟨_, _, _, _, sy⟩ := id hB
    have hu5 := sy _ _ (hL.2 u um)
    have ef := inBoth_step (us := N.map (·.2)) er
    refine ⟨rfl, ?_⟩
    refine ⟨_, rfl, _, rfl, u.1, O, u.2, N, rfl, rfl, hu5, sy _ _ hO.1, fun e he => sy _ _ (hO.2 e he), _, rfl, ?_⟩
    by_cases c : u.2 ∈ N.map (·.2)
    · rw [decide_eq_true c]
      rw [if_pos c] at ef
      refine iteT ?_
      obtain ⟨acc, b1, b2, b3⟩ := hB.more hD (fun _ _ z => z) hu5
      refine ⟨_, rfl, acc, b1, ?_, ?_⟩
      · rw [b2, sizeLine_eq]
        have := List.length_filter_le (fun r => decide (r ∈ N.map (·.2))) ((M.map (·.2)).take j)
        rw [List.length_take, List.length_map] at this
        unfold inBoth
        omega
      · rw [ef]
        exact b3
    · rw [decide_eq_false c]
      rw [if_neg c, List.append_nil] at ef
      refine iteF ?_
      rw [ef]
      exact hB
  · rintro Hx ⟨W, q1, q2, q3, q4⟩
    rw [lM, List.take_length] at q2
    exact k D' W Hx ⟨q1, fun e he => (q3 e he).2⟩ q2 q4
theorem st_cut (Cs : CalsL P w K mg base C) (hr : RoomL A0 s0 f cdv) : PS (LX P w K mg base f cdv A0 outer s0 H0 E) (stA 6)
    (fun D σ H => ∃ (v0 v1 v5 v9 v10 v11 v12 v13 v14 v15 v16 v17 v18 v19 v20 v21 v22 : Option V) (A L p q Db : Addr) (ms : List Str) (d : Nat) (M W : List (Addr × List Str)) (us : List (List Str)), σ = [v0, v1, some (.ref A), some (.int ((d + 1 : Nat) : Int)), some (.ref L), v5, some (.ref p), some (.ref q), some (.ref Db), v9, v10, v11, v12, v13, v14, v15, v16, v17, v18, v19, v20, v21, v22] ∧ Mks H A ms ∧ d ≤ 3 ∧ Rws H L ms d M ∧ TableAt C H p ms d (M.map (·.2)) ∧ TableAt C H q ms d us ∧ Over ms us ∧ RowsAt H Db W ∧ W.map (·.2) = inBoth us (M.map (·.2)) ∧ ∀ H', Same H H' → D.nx σ H') := by
  obtain ⟨fI, dI, GI, bI, kI, gI⟩ := Cs.is.ex
  obtain ⟨fX, dX, GX, bX, kX, gX⟩ := Cs.exact_.ex
  obtain ⟨fC, dC, GC, bC, kC, gC⟩ := Cs.cut.ex
  obtain ⟨fL, dL, GL, bL, kL, gL⟩ := Cs.lies.ex
  refine pstW (ps_if (PW.pt (pw_or (pt_not (pt_val (pe_call GI (hr.mono (by decide)) rfl gI kI bI .nil pass0 (pa_cons (pe_call GC (hr.mono (by decide)) rfl gC kC bC .nil pass0 (pa_cons (pv 6) (pa_cons (pv 7) pa_nil))) (pa_cons (pv 2) (pa_cons (pv 3) (pa_cons (pv 8) pa_nil)))))))
      (pw_or1 (pt_not (pt_val (pe_call GX (hr.mono (by decide)) rfl gX kX bX .nil pass0 (pa_cons (pe_lst (pa_cons (pe_call GL (hr.mono (by decide)) rfl gL kL bL .nil pass0 (pa_cons (pv 6) (pa_cons (pv 7) pa_nil))) (pa_cons (pe_call GL (hr.mono (by decide)) rfl gL kL bL .nil pass0 (pa_cons (pe_call GC (hr.mono (by decide)) rfl gC kC bC .nil pass0 (pa_cons (pv 6) (pa_cons (pv 7) pa_nil))) (pa_cons (pv 6) pa_nil))) pa_nil)))
        (pa_cons (pe_lst (pa_cons (pe_cmpR (op_eqD hr.units) (pv 8) (pv 4) (nomark _)) (pa_cons pe_bl pa_nil))) pa_nil))))))))
    (pss_one (ps_ret pe_bl)) pss_nil) fun D σ H h => ?_
  obtain ⟨v0, v1, v5, v9, v10, v11, v12, v13, v14, v15, v16, v17, v18, v19, v20, v21, v22, A, L, p, q, Db, ms, d, M, W, us, rfl, S, d3, R, T1, T2, ou, hW, eW, k⟩ := h
  obtain ⟨RW_, ndW⟩ := inn_filter R hW eW
  refine ⟨_, rfl, _, rfl, p, q, ms, d, _, us, rfl, T1, T2, S.ok, S.few, d3, R.over, fun x H1 ws nx mw Tx s1 => ?_⟩
  have W1 := hW.to s1
  refine ⟨_, rfl, _, rfl, _, rfl, x, A, Db, ms, d, ws, W, rfl, Tx, s1 _ _ S.a, W1.1, RW_.to s1, ndW, fun r => by rw [mw, eW, inBoth_mem], S.few, d3, fun H2 s2 => ⟨true, rfl, ?_⟩⟩
  refine iteF ?_
  have s02 : Same H H2 := fun b o z => s2 _ _ (s1 _ _ z)
  refine ⟨_, rfl, _, rfl, p, q, ms, d, _, us, rfl, T1.to s02, T2.to s02, S.ok, S.few, d3, R.over, fun b1 H3 hb1 s3 => ?_⟩
  have s03 : Same H H3 := fun b o z => s3 _ _ (s02 _ _ z)
  refine ⟨_, rfl, _, rfl, p, q, ms, d, _, us, rfl, T1.to s03, T2.to s03, S.ok, S.few, d3, R.over, fun y H4 vs ny mv Ty s4 => ?_⟩
  have s04 : Same H H4 := fun b o z => s4 _ _ (s03 _ _ z)
  refine ⟨_, rfl, y, p, ms, d, vs, _, rfl, Ty, T1.to s04, S.ok, S.few, d3, fun r hr => R.over r ((mv r).mp hr).1, fun b2 H5 hb2 s5 => ?_⟩
  have s05 : Same H H5 := fun b o z => s5 _ _ (s04 _ _ z)
  obtain rfl : b2 = true := hb2.mpr fun r hr => ((mv r).mp hr).1
  have eb : b1 = decide (inBoth us (M.map (·.2)) = M.map (·.2)) := by
    rw [Bool.eq_iff_iff, decide_eq_true_iff, inBoth_sub]
    exact hb1
  refine ⟨by show 2 ≤ sizeLine; decide, fun l1 n1 => ?_⟩
  have u1 := same_new (o := .lst [V.bl b1, V.bl true]) n1
  have c1 := upd_same (H := H5) (a := l1) (o := .lst [V.bl b1, V.bl true])
  generalize upd H5 l1 (.lst [V.bl b1, V.bl true]) = H6 at u1 c1 ⊢
  have s06 : Same H H6 := fun b o z => u1 _ _ (s05 _ _ z)
  have W6 := hW.to s06
  have R6 := R.to s06
  have wW : ∀ r ∈ W.map (·.2), ∀ z ∈ r, WordOk z := fun r hr z hz => S.ok.2.2.2 z (R.over r ((inBoth_mem.mp (by rw [← eW]; exact hr)).1) z hz)
  refine ⟨_, rfl, _, rfl, rowsD (W.map (·.2)), rowsD (M.map (·.2)), .lst (SqL.of W6.1) (dp_rows W6.2), .lst (SqL.of R6.at_) (dp_rows R6.inn.at_), rows_shaped wW, rows_shaped (words_of S R), ?_⟩
  rw [eqv_rowsD, eW, ← eb]
  refine ⟨by show 2 ≤ sizeLine; decide, fun l2 n2 => ?_⟩
  have u2 := same_new (o := .lst [V.bl b1, V.bl true]) n2
  refine ⟨[], .ref l1, .ref l2, rfl, .inr (.inl ⟨l1, l2, _, _, rfl, rfl, (by simp), (by simp), u2 _ _ c1, upd_same, .cons (Ex.leaf rfl) (.cons (Ex.leaf rfl) .nil), (show 2 ≤ 1000 by decide)⟩), fun H8 s8 => ⟨true, rfl, iteF (k H8 fun b o z => s8 _ _ (u2 _ _ (s06 _ _ z)))⟩⟩
theorem st_fellow (Cs : CalsL P w K mg base C) (hr : RoomL A0 s0 f cdv) : PS (LX P w K mg base f cdv A0 outer s0 H0 E) (stS 0)
    (fun D σ H => ∃ (v0 v1 v5 v6 v7 v8 v9 v11 v12 v13 v14 v15 v16 v17 v18 v19 v20 v21 v22 : Option V) (A L O : Addr) (ms : List Str) (d : Nat) (M N : List (Addr × List Str)), σ = [v0, v1, some (.ref A), some (.int ((d + 1 : Nat) : Int)), some (.ref L), v5, v6, v7, v8, v9, some (.ref O), v11, v12, v13, v14, v15, v16, v17, v18, v19, v20, v21, v22] ∧ Mks H A ms ∧ d ≤ 3 ∧ Rws H L ms d M ∧ Rws H O ms d N ∧ ∀ (p D' : Addr) (W : List (Addr × List Str)) (H' : Hp), TableAt C H' p ms d (N.map (·.2)) → RowsAt H' D' W → W.map (·.2) = inBoth (N.map (·.2)) (M.map (·.2)) → Same H H' → D.nx [v0, v1, some (.ref A), some (.int ((d + 1 : Nat) : Int)), some (.ref L), v5, v6, v7, v8, v9, some (.ref O), some (.ref p), some (.ref D'), v13, v14, v15, v16, v17, v18, v19, v20, v21, v22] H') := by
  obtain ⟨fI, dI, GI, bI, mk⟩ := Cs.tm.ini
  have TT := Cs.tm.tc
  have hu := hu_of hr
  refine pstW (ps_par (i := 11) (j := 12) (by rfl) scLaw.nd rfl rfl (by decide) rfl rfl (pa_cons (pe_make mk GI (hr.mono (by decide)) rfl TT.mgC bI .nil pass0 (pa_cons (pv 2) (pa_cons (pv 3) (pa_cons (pv 10) pa_nil)))) (pa_cons
    (pe_lc (own := [("_law_row_here", 21)]) (g := gName 21) (tt := tTest (tOp (rInRows K) (tVar 21) (tVar 10))) (te := tVar 21) rfl scLaw.nd (pi_list (pv 4)) (blkOk_by (own := [("_law_row_here", 21)]) (N := lawN) (sc := defScope sLaw) (by decide +kernel))
      (fun _ _ _ _ _ => pg_name (i := 21) scLaw.nd rfl (Or.inl rfl)) (fun _ _ _ _ _ => pts_one (pt_cmpR (op_in_rows hu) (pv 21) (pv 10) (by rfl))) (fun _ _ _ _ _ => pv 21)) pa_nil)) (by rfl)) fun D σ H h => ?_
  obtain ⟨v0, v1, v5, v6, v7, v8, v9, v11, v12, v13, v14, v15, v16, v17, v18, v19, v20, v21, v22, A, L, O, ms, d, M, N, rfl, S, d3, R, RO, k⟩ := h
  refine ⟨_, rfl, _, rfl, _, rfl, ?_⟩
  refine make_tableA (C := C) S.a S.ok d3 RO.at_ RO.inn (fun e he => RO.over e.2 (List.mem_map.mpr ⟨e, he, rfl⟩)) fun p H1 rs np mr Tp s1 => ?_
  obtain rfl : rs = N.map (·.2) := up_same Tp.up RO.up mr
  have hL := (R.to s1).rows
  have hO := (RO.to s1).rows
  have l81 : M.length ≤ 81 := Nat.le_trans (R.few S.few) (Nat.le_trans (Nat.pow_le_pow_right (by decide) (show d + 1 ≤ 4 by omega)) (by decide))
  refine ⟨_, rfl, L, rfl, ⟨_, SqL.of hL.1⟩, fun D' hD => ?_⟩
  have lM : (M.map fun e => V.ref e.1).length = (M.map (·.2)).length := by rw [List.length_map, List.length_map]
  refine lc_list (K := K) (a := L) (xs := M.map fun e => V.ref e.1) (fun j Hx => Built D' H1 (inBoth (N.map (·.2)) ((M.map (·.2)).take j)) Hx) (Built.first hD) (fun j Hx _ ⟨_, _, _, _, z⟩ => SqL.of (z _ _ hL.1)) ?_ ?_
  · rintro j v Hy ey hB
    rw [List.getElem?_map] at ey
    obtain ⟨u, hu, rfl⟩ := Option.map_eq_some_iff.mp ey
    have um := List.mem_of_getElem? hu
    have er : (M.map (·.2))[j]? = some u.2 := by rw [List.getElem?_map, hu] <;> rfl
    obtain ⟨_, _, _, _, sy⟩ := id hB
    have hu5 := sy _ _ (hL.2 u um)
    have ef := inBoth_step (us := N.map (·.2)) er
    refine ⟨rfl, ?_⟩
    refine ⟨_, rfl, _, rfl, u.1, O, u.2, N, rfl, rfl, hu5, sy _ _ hO.1, fun e he => sy _ _ (hO.2 e he), _, rfl, ?_⟩
    by_cases c : u.2 ∈ N.map (·.2)
    · rw [decide_eq_true c]
      rw [if_pos c] at ef
      refine iteT ?_
      obtain ⟨acc, b1, b2, b3⟩ := hB.more hD (fun _ _ z => z) hu5
      refine ⟨_, rfl, acc, b1, ?_, ?_⟩
      · rw [b2, sizeLine_eq]
        have := List.length_filter_le (fun r => decide (r ∈ N.map (·.2))) ((M.map (·.2)).take j)
        rw [List.length_take, List.length_map] at this
        unfold inBoth
        omega
      · rw [ef]
        exact b3
    · rw [decide_eq_false c]
      rw [if_neg c, List.append_nil] at ef
      refine iteF ?_
      rw [ef]
      exact hB
  · rintro Hx ⟨W, q1, q2, q3, q4⟩
    rw [lM, List.take_length] at q2
    exact ⟨_, _, rfl, k p D' W Hx (Tp.to q4) ⟨q1, fun e he => (q3 e he).2⟩ q2 fun b o z => q4 _ _ (s1 _ _ z)⟩
theorem st_lies (Cs : CalsL P w K mg base C) (hr : RoomL A0 s0 f cdv) : PS (LX P w K mg base f cdv A0 outer s0 H0 E) (stS 1)
    (fun D σ H => ∃ (v0 v1 v5 v7 v8 v9 v10 v13 v14 v15 v16 v17 v18 v19 v20 v21 v22 : Option V) (A L p q Db : Addr) (ms : List Str) (d : Nat) (M W : List (Addr × List Str)) (us : List (List Str)), σ = [v0, v1, some (.ref A), some (.int ((d + 1 : Nat) : Int)), some (.ref L), v5, some (.ref p), v7, v8, v9, v10, some (.ref q), some (.ref Db), v13, v14, v15, v16, v17, v18, v19, v20, v21, v22] ∧ Mks H A ms ∧ d ≤ 3 ∧ Rws H L ms d M ∧ TableAt C H p ms d (M.map (·.2)) ∧ TableAt C H q ms d us ∧ RowsAt H Db W ∧ W.map (·.2) = inBoth us (M.map (·.2)) ∧ ∀ H', Same H H' → D.nx σ H') := by
  obtain ⟨fI, dI, GI, bI, kI, gI⟩ := Cs.is.ex
  obtain ⟨fC, dC, GC, bC, kC, gC⟩ := Cs.cut.ex
  obtain ⟨fL, dL, GL, bL, kL, gL⟩ := Cs.lies.ex
  refine pstW (ps_if (PW.pt (pw_or (pt_not (pt_val (pe_call GI (hr.mono (by decide)) rfl gI kI bI .nil pass0 (pa_cons (pe_call GC (hr.mono (by decide)) rfl gC kC bC .nil pass0 (pa_cons (pv 6) (pa_cons (pv 11) pa_nil))) (pa_cons (pv 2) (pa_cons (pv 3) (pa_cons (pv 12) pa_nil)))))))
      (pw_or1 (pt_cmpR op_ne (pe_call GL (hr.mono (by decide)) rfl gL kL bL .nil pass0 (pa_cons (pv 6) (pa_cons (pv 11) pa_nil))) (pe_cmpR (op_eqD hr.units) (pv 12) (pv 4) (nomark _)) (nomark _)))))
    (pss_one (ps_ret pe_bl)) pss_nil) fun D σ H h => ?_
  obtain ⟨v0, v1, v5, v7, v8, v9, v10, v13, v14, v15, v16, v17, v18, v19, v20, v21, v22, A, L, p, q, Db, ms, d, M, W, us, rfl, S, d3, R, T1, T2, hW, eW, k⟩ := h
  obtain ⟨RW_, ndW⟩ := inn_filter R hW eW
  refine ⟨_, rfl, _, rfl, p, q, ms, d, _, us, rfl, T1, T2, S.ok, S.few, d3, R.over, fun x H1 ws nx mw Tx s1 => ?_⟩
  have W1 := hW.to s1
  refine ⟨_, rfl, _, rfl, _, rfl, x, A, Db, ms, d, ws, W, rfl, Tx, s1 _ _ S.a, W1.1, RW_.to s1, ndW, fun r => by rw [mw, eW, inBoth_mem], S.few, d3, fun H2 s2 => ⟨true, rfl, ?_⟩⟩
  refine iteF ?_
  have s02 : Same H H2 := fun b o z => s2 _ _ (s1 _ _ z)
  refine ⟨_, rfl, _, rfl, p, q, ms, d, _, us, rfl, T1.to s02, T2.to s02, S.ok, S.few, d3, R.over, fun b1 H3 hb1 s3 => ?_⟩
  have s03 : Same H H3 := fun b o z => s3 _ _ (s02 _ _ z)
  have eb : b1 = decide (inBoth us (M.map (·.2)) = M.map (·.2)) := by
    rw [Bool.eq_iff_iff, decide_eq_true_iff, inBoth_sub]
    exact hb1
  have W3 := hW.to s03
  have R3 := R.to s03
  have wW : ∀ r ∈ W.map (·.2), ∀ z ∈ r, WordOk z := fun r hr z hz => S.ok.2.2.2 z (R.over r ((inBoth_mem.mp (by rw [← eW]; exact hr)).1) z hz)
  refine ⟨_, rfl, _, rfl, rowsD (W.map (·.2)), rowsD (M.map (·.2)), .lst (SqL.of W3.1) (dp_rows W3.2), .lst (SqL.of R3.at_) (dp_rows R3.inn.at_), rows_shaped wW, rows_shaped (words_of S R), ?_⟩
  rw [eqv_rowsD, eW, ← eb]
  refine ⟨rfl, false, ?_, iteF (k H3 s03)⟩
  rw [decide_eq_true rfl]
  rfl
end
end Yt

set_option Elab.async false
set_option linter.all false
set_option maxRecDepth 100000
set_option maxHeartbeats 2000000
namespace Yt
open PySem PySem.Spec PyProof.Rows L2
theorem swap_inj {x y : List Str} (h1 : x.length = 2) (h2 : y.length = 2) (e : swap x = swap y) : x = y := by
  rw [row2 h1, row2 h2]
  simp only [swap, List.cons.injEq, and_true] at e
  rw [e.1, e.2]
theorem swap_swap {x : List Str} (h : x.length = 2) : swap (swap x) = x := by
  conv => rhs; rw [row2 h]
  rfl
theorem swap_nodup {rs : List (List Str)} (len : ∀ r ∈ rs, r.length = 2) (nd : rs.Nodup) : (rs.map swap).Nodup :=
  List.pairwise_map.mpr (List.Pairwise.imp_of_mem (fun {a b} ha hb ne e => ne (swap_inj (len a ha) (len b hb) e)) nd)
theorem chain_like {ms : List Str} {rs ls : List (List Str)} (len : ∀ r ∈ rs, r.length = 2) (o : Over ms rs) (ml : ∀ r, r ∈ ls ↔ r ∈ ms.map fun m => [m, m]) : ∀ r, r ∈ chainL rs ls ↔ r ∈ rs := by
  intro r
  rw [chainL_mem]
  constructor
  · rintro ⟨x, hx, y, hy, e, rfl⟩
    obtain ⟨m, _, rfl⟩ := List.mem_map.mp ((ml y).mp hy)
    have : link x [m, m] = x := by
      conv => rhs; rw [row2 (len x hx)]
      show [at_ x 0, m] = _
      rw [e]
      rfl
    rw [this]
    exact hx
  · intro hr
    have h1 : at_ r 1 ∈ ms := o r hr _ (List.mem_of_getElem? (at_get (by rw [len r hr]; decide)))
    refine ⟨r, hr, [at_ r 1, at_ r 1], (ml _).mpr (List.mem_map.mpr ⟨_, h1, rfl⟩), rfl, ?_⟩
    conv => lhs; rw [row2 (len r hr)]
    rfl
theorem chain_back {rs us cs ts xs ys : List (List Str)} (mc : ∀ r, r ∈ cs ↔ r ∈ chainL rs us) (mt : ∀ r, r ∈ ts ↔ r ∈ cs.map swap) (mx : ∀ r, r ∈ xs ↔ r ∈ us.map swap) (my : ∀ r, r ∈ ys ↔ r ∈ rs.map swap) : ∀ r, r ∈ ts ↔ r ∈ chainL xs ys := by
  intro r
  rw [mt, chainL_mem]
  constructor
  · intro h
    obtain ⟨c, hc, rfl⟩ := List.mem_map.mp h
    obtain ⟨x, hx, y, hy, e, rfl⟩ := chainL_mem.mp ((mc c).mp hc)
    exact ⟨swap y, (mx _).mpr (List.mem_map.mpr ⟨y, hy, rfl⟩), swap x, (my _).mpr (List.mem_map.mpr ⟨x, hx, rfl⟩), e.symm, rfl⟩
  · rintro ⟨a, ha, b, hb, e, rfl⟩
    obtain ⟨y, hy, rfl⟩ := List.mem_map.mp ((mx a).mp ha)
    obtain ⟨x, hx, rfl⟩ := List.mem_map.mp ((my b).mp hb)
    exact List.mem_map.mpr ⟨link x y, (mc _).mpr (chainL_mem.mpr ⟨x, hx, y, hy, e.symm, rfl⟩), rfl⟩
section
variable {P : Program} {w : World} {K : PySem.W.Frag} {mg : Str → Option Value} {base : Heap} {f : Addr} {fd : FuncData} {cdv : Value} {A0 : Around} {outer : List Env} {s0 : Shared} {H0 : Hp} {E : XK} {C : Addr}
theorem st_eqs (Cs : CalsL P w K mg base C) (hr : RoomL A0 s0 f cdv) : PS (LX P w K mg base f cdv A0 outer s0 H0 E) (stA 9)
    (fun D σ H => ∃ (v0 v1 v8 v9 v10 v11 v12 v13 v14 v15 v16 v17 v18 v19 v20 v21 v22 : Option V) (A L O p q : Addr) (ms : List Str) (d : Nat) (M N : List (Addr × List Str)), σ = [v0, v1, some (.ref A), some (.int ((d + 1 : Nat) : Int)), some (.ref L), some (.ref O), some (.ref p), some (.ref q), v8, v9, v10, v11, v12, v13, v14, v15, v16, v17, v18, v19, v20, v21, v22] ∧ Mks H A ms ∧ d ≤ 3 ∧ Rws H L ms d M ∧ Rws H O ms d N ∧ TableAt C H p ms d (M.map (·.2)) ∧ TableAt C H q ms d (N.map (·.2)) ∧ ∀ H', Same H H' → D.nx σ H') := by
  obtain ⟨fI, dI, GI, bI, mk⟩ := Cs.tm.ini
  obtain ⟨fE, dE, GE, bE, hE, iE⟩ := Cs.tm.eq
  have TT := Cs.tm.tc
  refine pstW (ps_if (PW.pt (pw_or (pt_cmpR op_ne (pe_cmpR (op_eqOwn GE hE iE bE pass0 (hr.mono (by decide))) (pv 6) (pv 7) (nomark _)) (pe_cmpR (op_eqD hr.units) (pv 4) (pv 5) (nomark _)) (nomark _))
      (pw_or1 (pt_not (pt_cmpR (op_eqOwn GE hE iE bE pass0 (hr.mono (by decide))) (pv 6) (pe_make mk GI (hr.mono (by decide)) rfl TT.mgC bI .nil pass0 (pa_cons (pv 2) (pa_cons (pv 3) (pa_cons (pe_revL (pv 4)) pa_nil)))) (nomark _))))))
    (pss_one (ps_ret pe_bl)) pss_nil) fun D σ H h => ?_
  obtain ⟨v0, v1, v8, v9, v10, v11, v12, v13, v14, v15, v16, v17, v18, v19, v20, v21, v22, A, L, O, p, q, ms, d, M, N, rfl, S, d3, R, RO, T1, T2, k⟩ := h
  obtain ⟨dx, A1, R1, M1, g1, _⟩ := id T1
  obtain ⟨dy, A2, R2, M2, g2, _⟩ := id T2
  refine ⟨_, rfl, _, rfl, p, q, dx, dy, _, _, rfl, rfl, g1, g2, p, q, ms, ms, d, d, _, _, rfl, T1, T2, Over.words R.over S.ok, Over.words RO.over S.ok, ?_⟩
  refine ⟨_, rfl, _, rfl, rowsD (M.map (·.2)), rowsD (N.map (·.2)), .lst (SqL.of R.at_) (dp_rows R.inn.at_), .lst (SqL.of RO.at_) (dp_rows RO.inn.at_), rows_shaped (words_of S R), rows_shaped (words_of S RO), ?_⟩
  rw [eqv_rowsD]
  have e0 : decide (ms = ms ∧ d = d ∧ M.map (·.2) = N.map (·.2)) = decide (M.map (·.2) = N.map (·.2)) := by simp
  rw [e0]
  refine ⟨rfl, false, by rw [decide_eq_true rfl] <;> rfl, iteF ?_⟩
  refine ⟨_, rfl, _, rfl, _, rfl, _, rfl, L, _, rfl, SqL.of R.at_, fun l nl => ?_⟩
  rw [← List.map_reverse]
  have sl := same_new (o := .lst (M.reverse.map fun e => V.ref e.1)) nl
  have pm : M.reverse.Perm M := List.reverse_perm M
  refine make_tableA (C := C) (d := d) (sl _ _ S.a) S.ok d3 upd_same ((R.inn.perm pm).to sl) (fun e he => R.over e.2 (List.mem_map.mpr ⟨e, pm.mem_iff.mp he, rfl⟩)) fun x H2 rs nx mr Tx s2 => ?_
  obtain rfl : rs = M.map (·.2) := up_same Tx.up R.up fun r => (mr r).trans (pm.map (·.2)).mem_iff
  have s02 : Same H H2 := fun b o z => s2 _ _ (sl _ _ z)
  obtain ⟨dz, A3, R3, M3, g3, _⟩ := id Tx
  refine ⟨p, x, dx, dz, _, _, rfl, rfl, s02 _ _ g1, g3, p, x, ms, ms, d, d, _, _, rfl, T1.to s02, Tx, Over.words R.over S.ok, Over.words R.over S.ok, true, ?_, ?_⟩
  · rw [decide_eq_true ⟨rfl, rfl, rfl⟩]
  · exact iteF (k H2 s02)
theorem st_turn (Cs : CalsL P w K mg base C) (hr : RoomL A0 s0 f cdv) : PS (LX P w K mg base f cdv A0 outer s0 H0 E) (stB 2)
    (fun D σ H => ∃ (v0 v1 v3 v4 v5 v7 v8 v9 v10 v11 v12 v13 v15 v16 v17 v18 v19 v20 v21 v22 : Option V) (A p L : Addr) (ms : List Str) (M : List (Addr × List Str)), σ = [v0, v1, some (.ref A), v3, v4, v5, some (.ref p), v7, v8, v9, v10, v11, v12, v13, some (.ref L), v15, v16, v17, v18, v19, v20, v21, v22] ∧ Mks H A ms ∧ Rws H L ms 1 M ∧ TableAt C H p ms 1 (M.map (·.2)) ∧ ∀ H', Same H H' → D.nx σ H') := by
  obtain ⟨fI, dI, GI, bI, kI, gI⟩ := Cs.is.ex
  obtain ⟨fT, dT, GT, bT, kT, gT⟩ := Cs.turned.ex
  obtain ⟨fE, dE, GE, bE, hE, iE⟩ := Cs.tm.eq
  refine pstW (ps_if (PW.pt (pw_or (pt_not (pt_val (pe_call GI (hr.mono (by decide)) rfl gI kI bI .nil pass0 (pa_cons (pe_call GT (hr.mono (by decide)) rfl gT kT bT .nil pass0 (pa_cons (pv 6) pa_nil)) (pa_cons (pv 2) (pa_cons pe_int (pa_cons
        (pe_lc (own := [("_law_row_here", 21)]) (g := gName 21) (tt := tYes) (te := tRev2 K (tVar 21)) rfl scLaw.nd (pi_list (pv 14)) (blkOk_by (own := [("_law_row_here", 21)]) (N := lawN) (sc := defScope sLaw) (by decide +kernel))
          (fun _ _ _ _ _ => pg_name (i := 21) scLaw.nd rfl (Or.inl rfl)) (fun _ _ _ _ _ => pts_nil) (fun _ _ _ _ _ => pe_rev2 (pv 21))) pa_nil)))))))
      (pw_or1 (pt_not (pt_cmpR (op_eqOwn GE hE iE bE pass0 (hr.mono (by decide))) (pe_call GT (hr.mono (by decide)) rfl gT kT bT .nil pass0 (pa_cons (pe_call GT (hr.mono (by decide)) rfl gT kT bT .nil pass0 (pa_cons (pv 6) pa_nil)) pa_nil)) (pv 6) (nomark _))))))
    (pss_one (ps_ret pe_bl)) pss_nil) fun D σ H h => ?_
  obtain ⟨v0, v1, v3, v4, v5, v7, v8, v9, v10, v11, v12, v13, v15, v16, v17, v18, v19, v20, v21, v22, A, p, L, ms, M, rfl, S, R, T1, k⟩ := h
  have l9 : M.length ≤ 9 := R.few S.few
  refine ⟨_, rfl, p, ms, _, rfl, T1, S.ok, S.few, R.over, fun x H1 ws nx mw Tx s1 => ?_⟩
  have R1 := R.to s1
  refine ⟨_, rfl, _, rfl, L, rfl, ⟨_, SqL.of R1.at_⟩, fun D' hD => ?_⟩
  have lM : (M.map fun e => V.ref e.1).length = (M.map (·.2)).length := by rw [List.length_map, List.length_map]
  refine lc_list (K := K) (a := L) (xs := M.map fun e => V.ref e.1) (fun j Hx => Built D' H1 (((M.map (·.2)).take j).map swap) Hx) (Built.first hD) (fun j Hx _ ⟨_, _, _, _, z⟩ => SqL.of (z _ _ R1.at_)) ?_ ?_
  · rintro j v Hy ey hB
    rw [List.getElem?_map] at ey
    obtain ⟨u, hu, rfl⟩ := Option.map_eq_some_iff.mp ey
    have um := List.mem_of_getElem? hu
    have er : (M.map (·.2))[j]? = some u.2 := by rw [List.getElem?_map, hu] <;> rfl
    obtain ⟨_, _, _, _, sy⟩ := id hB
    have hu5 := two_tup (R.inn.len u um) (sy _ _ (R1.inn.at_ u um))
    refine ⟨rfl, ?_⟩
    refine ⟨_, rfl, u.1, _, _, rfl, SqT.of hu5, fun t nt => ?_⟩
    obtain ⟨acc, b1, b2, b3⟩ := hB.more hD (same_new (o := .tup [V.str (at_ u.2 1), V.str (at_ u.2 0)]) nt) (t := t) (r := swap u.2) upd_same
    refine ⟨acc, b1, by rw [b2, List.length_map, List.length_take, List.length_map, sizeLine_eq]; omega, ?_⟩
    rw [List.take_add_one, er, List.map_append]
    exact b3
  · rintro Hx ⟨W, q1, q2, q3, q4⟩
    rw [lM, List.take_length] at q2
    have s0x : Same H Hx := fun b o z => q4 _ _ (s1 _ _ z)
    have lW : W.length ≤ 9 := by
      have := congrArg List.length q2
      rw [List.length_map, List.length_map, List.length_map] at this
      omega
    have inW : ∀ e ∈ W, e.2.length = 2 := fun e he => by
      have : e.2 ∈ (M.map (·.2)).map swap := by
        rw [← q2]
        exact List.mem_map.mpr ⟨e, he, rfl⟩
      obtain ⟨m, _, e1⟩ := List.mem_map.mp this
      rw [← e1]
      rfl
    refine ⟨x, A, D', ms, 1, ws, W, rfl, Tx.to q4, s0x _ _ S.a, q1, ⟨fun e he => (q3 e he).2, inW, by omega⟩, by rw [q2]; exact swap_nodup (fun r hr => (R.ok r hr).1) R.up.nodup, fun r => by rw [mw, q2], S.few, by decide, fun H2 s2 => ⟨true, rfl, ?_⟩⟩
    refine iteF ?_
    have s02 : Same H H2 := fun b o z => s2 _ _ (s0x _ _ z)
    refine ⟨_, rfl, p, ms, _, rfl, T1.to s02, S.ok, S.few, R.over, fun y H3 us ny mu Ty s3 => ?_⟩
    have lR : ∀ r ∈ M.map (·.2), r.length = 2 := fun r hr => (R.ok r hr).1
    have ou : Over ms us := fun r hr => by
      obtain ⟨v, hv, rfl⟩ := List.mem_map.mp ((mu r).mp hr)
      exact swap_over (lR v hv) (R.over v hv)
    refine ⟨y, ms, us, rfl, Ty, S.ok, S.few, ou, fun z H4 ts nz mt Tz s4 => ?_⟩
    have s04 : Same H H4 := fun b o q => s4 _ _ (s3 _ _ (s02 _ _ q))
    have ez : ts = M.map (·.2) := up_same Tz.up R.up fun r => by
      rw [mt]
      constructor
      · intro h
        obtain ⟨v, hv, rfl⟩ := List.mem_map.mp h
        obtain ⟨r, hr, rfl⟩ := List.mem_map.mp ((mu v).mp hv)
        rw [swap_swap (lR r hr)]
        exact hr
      · intro hr
        exact List.mem_map.mpr ⟨swap r, (mu _).mpr (List.mem_map.mpr ⟨r, hr, rfl⟩), swap_swap (lR r hr)⟩
    have Tp := T1.to s04
    obtain ⟨dx, A1, R1, M1, g1, _⟩ := id Tz
    obtain ⟨dy, A2, R2, M2, g2, _⟩ := id Tp
    refine ⟨_, rfl, z, p, dx, dy, _, _, rfl, rfl, g1, g2, z, p, ms, ms, 1, 1, _, _, rfl, Tz, Tp, Over.words (by rw [ez]; exact R.over) S.ok, Over.words R.over S.ok, true, ?_, ?_⟩
    · rw [decide_eq_true ⟨rfl, rfl, ez⟩]
    · exact iteF (k H4 s04)
theorem st_link (Cs : CalsL P w K mg base C) (hr : RoomL A0 s0 f cdv) : PS (LX P w K mg base f cdv A0 outer s0 H0 E) (stQ 1)
    (fun D σ H => ∃ (v0 v1 v3 v4 v5 v6 v7 v8 v9 v10 v11 v12 v13 v14 v15 v19 v20 v21 v22 : Option V) (A L O x : Addr) (ms : List Str) (M N : List (Addr × List Str)) (ws : List (List Str)), σ = [v0, v1, some (.ref A), v3, v4, v5, v6, v7, v8, v9, v10, v11, v12, v13, v14, v15, some (.ref L), some (.ref O), some (.ref x), v19, v20, v21, v22] ∧ Mks H A ms ∧ Rws H L ms 1 M ∧ Rws H O ms 1 N ∧ TableAt C H x ms 1 ws ∧ (∀ r, r ∈ ws ↔ r ∈ chainL (M.map (·.2)) (N.map (·.2))) ∧ ∀ H', Same H H' → D.nx σ H') := by
  obtain ⟨fI, dI, GI, bI, kI, gI⟩ := Cs.is.ex
  obtain ⟨fC, dC, GC, bC, kC, gC⟩ := Cs.chain.ex
  refine pstW (ps_if (pt_not (pt_val (pe_call GI (hr.mono (by decide)) rfl gI kI bI .nil pass0 (pa_cons (pv 18) (pa_cons (pv 2) (pa_cons pe_int (pa_cons (pe_call GC (hr.mono (by decide)) rfl gC kC bC .nil pass0 (pa_cons (pv 16) (pa_cons (pv 17) pa_nil))) pa_nil))))))) (pss_one (ps_ret pe_bl)) pss_nil) fun D σ H h => ?_
  obtain ⟨v0, v1, v3, v4, v5, v6, v7, v8, v9, v10, v11, v12, v13, v14, v15, v19, v20, v21, v22, A, L, O, x, ms, M, N, ws, rfl, S, R, RO, Tx, mw, k⟩ := h
  refine ⟨_, rfl, _, rfl, _, rfl, _, rfl, L, O, M, N, rfl, R.rows, RO.rows, R.inn.len, RO.inn.len, R.few S.few, RO.few S.few, fun D' W H1 nD hD RW_ up mW s1 => ?_⟩
  exact ⟨x, A, D', ms, 1, ws, W, rfl, Tx.to s1, s1 _ _ S.a, hD, RW_, up.nodup, fun r => (mw r).trans (mW r).symm, S.few, by decide, fun H2 s2 => ⟨true, rfl, iteF (k H2 fun b o z => s2 _ _ (s1 _ _ z))⟩⟩
theorem st_back (Cs : CalsL P w K mg base C) (hr : RoomL A0 s0 f cdv) : PS (LX P w K mg base f cdv A0 outer s0 H0 E) (stB 4)
    (fun D σ H => ∃ (v0 v1 v3 v4 v7 v8 v9 v10 v11 v12 v13 v14 v15 v16 v17 v18 v19 v20 v21 v22 : Option V) (A p q : Addr) (ms : List Str) (rs us : List (List Str)), σ = [v0, v1, some (.ref A), v3, v4, some (.ref q), some (.ref p), v7, v8, v9, v10, v11, v12, v13, v14, v15, v16, v17, v18, v19, v20, v21, v22] ∧ Mks H A ms ∧ TableAt C H p ms 1 rs ∧ TableAt C H q ms 1 us ∧ Over ms rs ∧ Over ms us ∧ ∀ H', Same H H' → D.nx σ H') := by
  obtain ⟨fC, dC, GC, bC, kC, gC⟩ := Cs.chained.ex
  obtain ⟨fL, dL, GL, bL, kL, gL⟩ := Cs.like_.ex
  obtain ⟨fT, dT, GT, bT, kT, gT⟩ := Cs.turned.ex
  obtain ⟨fE, dE, GE, bE, hE, iE⟩ := Cs.tm.eq
  refine pstW (ps_if (PW.pt (pw_or (pt_not (pt_cmpR (op_eqOwn GE hE iE bE pass0 (hr.mono (by decide))) (pe_call GC (hr.mono (by decide)) rfl gC kC bC .nil pass0 (pa_cons (pv 6) (pa_cons (pe_call GL (hr.mono (by decide)) rfl gL kL bL .nil pass0 (pa_cons (pv 2) pa_nil)) pa_nil))) (pv 6) (nomark _)))
      (pw_or1 (pt_not (pt_cmpR (op_eqOwn GE hE iE bE pass0 (hr.mono (by decide))) (pe_call GT (hr.mono (by decide)) rfl gT kT bT .nil pass0 (pa_cons (pe_call GC (hr.mono (by decide)) rfl gC kC bC .nil pass0 (pa_cons (pv 6) (pa_cons (pv 5) pa_nil))) pa_nil))
        (pe_call GC (hr.mono (by decide)) rfl gC kC bC .nil pass0 (pa_cons (pe_call GT (hr.mono (by decide)) rfl gT kT bT .nil pass0 (pa_cons (pv 5) pa_nil)) (pa_cons (pe_call GT (hr.mono (by decide)) rfl gT kT bT .nil pass0 (pa_cons (pv 6) pa_nil)) pa_nil))) (nomark _))))))
    (pss_one (ps_ret pe_bl)) pss_nil) fun D σ H h => ?_
  obtain ⟨v0, v1, v3, v4, v7, v8, v9, v10, v11, v12, v13, v14, v15, v16, v17, v18, v19, v20, v21, v22, A, p, q, ms, rs, us, rfl, S, T1, T2, o1, o2, k⟩ := h
  have l1 := T1.len
  have l2 := T2.len
  refine ⟨_, rfl, _, rfl, A, ms, rfl, S.a, S.ok, S.few, fun l H1 ls nl ml Tl s1 => ?_⟩
  have ol : Over ms ls := fun r hr z hz => by
    obtain ⟨m, hm, rfl⟩ := List.mem_map.mp ((ml r).mp hr)
    simp only [List.mem_cons, List.not_mem_nil, or_false, or_self] at hz
    rw [hz]
    exact hm
  refine ⟨p, l, ms, rs, ls, rfl, T1.to s1, Tl, S.ok, S.few, o1, ol, fun x H2 ws nx mw Tx s2 => ?_⟩
  have s02 : Same H H2 := fun b o z => s2 _ _ (s1 _ _ z)
  have ew : ws = rs := up_same Tx.up T1.up fun r => (mw r).trans (chain_like l1 o1 ml r)
  have T12 := T1.to s02
  obtain ⟨dx, A1, R1, M1, g1, _⟩ := id Tx
  obtain ⟨dy, A2, R2, M2, g2, _⟩ := id T12
  refine ⟨_, rfl, x, p, dx, dy, _, _, rfl, rfl, g1, g2, x, p, ms, ms, 1, 1, _, _, rfl, Tx, T12, Over.words (by rw [ew]; exact o1) S.ok, Over.words o1 S.ok, true, ?_, ?_⟩
  · rw [decide_eq_true ⟨rfl, rfl, ew⟩]
  refine iteF ?_
  have oswap : ∀ {rs ts : List (List Str)}, (∀ r ∈ rs, r.length = 2) → Over ms rs → (∀ r, r ∈ ts ↔ r ∈ rs.map swap) → Over ms ts := fun {rs ts} l o m r hr => by
    obtain ⟨v, hv, rfl⟩ := List.mem_map.mp ((m r).mp hr)
    exact swap_over (l v hv) (o v hv)
  refine ⟨_, rfl, _, rfl, p, q, ms, rs, us, rfl, T12, T2.to s02, S.ok, S.few, o1, o2, fun y H3 cs ny mc Ty s3 => ?_⟩
  have s03 : Same H H3 := fun b o z => s3 _ _ (s02 _ _ z)
  have oc : Over ms cs := fun r hr z hz => by
    obtain ⟨a, ha, b, hb, _, rfl⟩ := chainL_mem.mp ((mc r).mp hr)
    simp only [link, List.mem_cons, List.not_mem_nil, or_false] at hz
    rcases hz with rfl | rfl
    · exact o1 a ha _ (List.mem_of_getElem? (at_get (by rw [l1 a ha]; decide)))
    · exact o2 b hb _ (List.mem_of_getElem? (at_get (by rw [l2 b hb]; decide)))
  refine ⟨y, ms, cs, rfl, Ty, S.ok, S.few, oc, fun z H4 ts nz mt Tz s4 => ?_⟩
  have s04 : Same H H4 := fun b o z => s4 _ _ (s03 _ _ z)
  refine ⟨_, rfl, q, ms, us, rfl, T2.to s04, S.ok, S.few, o2, fun u H5 xs nu mx Tu s5 => ?_⟩
  have s05 : Same H H5 := fun b o z => s5 _ _ (s04 _ _ z)
  refine ⟨_, rfl, p, ms, rs, rfl, T1.to s05, S.ok, S.few, o1, fun v H6 ys nv my Tv s6 => ?_⟩
  have s06 : Same H H6 := fun b o z => s6 _ _ (s05 _ _ z)
  refine ⟨u, v, ms, xs, ys, rfl, Tu.to s6, Tv, S.ok, S.few, oswap l2 o2 mx, oswap l1 o1 my, fun a H7 bs na mb Ta s7 => ?_⟩
  have s07 : Same H H7 := fun b o z => s7 _ _ (s06 _ _ z)
  have et : ts = bs := up_same Tz.up Ta.up fun r => (chain_back mc mt mx my r).trans (mb r).symm
  have Tz7 := ((Tz.to s5).to s6).to s7
  have ots : Over ms ts := oswap Ty.len oc mt
  obtain ⟨dz, A3, R3, M3, g3, _⟩ := id Tz7
  obtain ⟨da, A4, R4, M4, g4, _⟩ := id Ta
  refine ⟨z, a, dz, da, _, _, rfl, rfl, g3, g4, z, a, ms, ms, 1, 1, _, _, rfl, Tz7, Ta, Over.words ots S.ok, Over.words (by rw [← et]; exact ots) S.ok, true, ?_, ?_⟩
  · rw [decide_eq_true ⟨rfl, rfl, et⟩]
  · exact iteF (k H7 s07)
theorem st_end (Cs : CalsL P w K mg base C) (hr : RoomL A0 s0 f cdv) : PS (LX P w K mg base f cdv A0 outer s0 H0 E) (stC 6)
    (fun D σ H => ∃ (v0 v1 v3 v4 v5 v6 v7 v8 v9 v10 v11 v12 v13 v15 v16 v17 v18 v19 v21 v22 : Option V) (A L tb : Addr) (ms : List Str) (M : List (Addr × List Str)), σ = [v0, v1, some (.ref A), v3, v4, v5, v6, v7, v8, v9, v10, v11, v12, v13, some (.ref L), v15, v16, v17, v18, v19, some (.ref tb), v21, v22] ∧ Mks H A ms ∧ Rws H L ms 1 M ∧ TableAt C H tb ms 1 (M.map (·.2)) ∧ ∀ H', Same H H' → D.nx σ H') := by
  obtain ⟨fI, dI, GI, bI, kI, gI⟩ := Cs.is.ex
  obtain ⟨fL, dL, GL, bL, kL, gL⟩ := Cs.like_.ex
  refine pstW (ps_if (PW.pt (pw_or (pt_not (pt_val (pe_call GI (hr.mono (by decide)) rfl gI kI bI .nil pass0 (pa_cons (pv 20) (pa_cons (pv 2) (pa_cons pe_int (pa_cons (pv 14) pa_nil)))))))
      (pw_or1 (pt_not (pt_val (pe_call GI (hr.mono (by decide)) rfl gI kI bI .nil pass0 (pa_cons (pe_call GL (hr.mono (by decide)) rfl gL kL bL .nil pass0 (pa_cons (pv 2) pa_nil)) (pa_cons (pv 2) (pa_cons pe_int (pa_cons
        (pe_lc (own := [("_law_mark", 22)]) (g := gName 22) (tt := tYes) (te := tTup (tCons (tVar 22) (tCons (tVar 22) tNil))) rfl scLaw.nd (pi_list (pv 2)) (blkOk_by (own := [("_law_mark", 22)]) (N := lawN) (sc := defScope sLaw) (by decide +kernel))
          (fun _ _ _ _ _ => pg_name (i := 22) scLaw.nd rfl (Or.inl rfl)) (fun _ _ _ _ _ => pts_nil) (fun _ _ _ _ _ => pe_tup (pa_cons (pv 22) (pa_cons (pv 22) pa_nil)))) pa_nil))))))))))
    (pss_one (ps_ret pe_bl)) pss_nil) fun D σ H h => ?_
  obtain ⟨v0, v1, v3, v4, v5, v6, v7, v8, v9, v10, v11, v12, v13, v15, v16, v17, v18, v19, v21, v22, A, L, tb, ms, M, rfl, S, R, T1, k⟩ := h
  refine ⟨_, rfl, _, rfl, _, rfl, tb, A, L, ms, 1, _, M, rfl, T1, S.a, R.at_, R.inn, R.up.nodup, fun r => Iff.rfl, S.few, by decide, fun H1 s1 => ⟨true, rfl, ?_⟩⟩
  refine iteF ?_
  have S1 := S.to s1
  refine ⟨_, rfl, A, ms, rfl, S1.a, S.ok, S.few, fun l H2 ls nl ml Tl s2 => ?_⟩
  have S2 := S1.to s2
  refine ⟨_, rfl, _, rfl, A, rfl, ⟨_, SqL.of S2.a⟩, fun D' hD => ?_⟩
  have f3 := S.few
  refine lc_list (K := K) (a := A) (xs := ms.map V.str) (fun j Hx => Built D' H2 ((ms.take j).map fun m => [m, m]) Hx) (Built.first hD) (fun j Hx _ ⟨_, _, _, _, z⟩ => SqL.of (z _ _ S2.a)) ?_ ?_
  · rintro j v Hy ey hB
    rw [List.getElem?_map] at ey
    obtain ⟨m, em, rfl⟩ := Option.map_eq_some_iff.mp ey
    refine ⟨rfl, ?_⟩
    refine ⟨_, rfl, _, rfl, (by show 2 ≤ sizeLine; decide), fun t nt => ?_⟩
    obtain ⟨acc, b1, b2, b3⟩ := hB.more hD (same_new (o := .tup [V.str m, V.str m]) nt) (t := t) (r := [m, m]) upd_same
    refine ⟨acc, b1, by rw [b2, List.length_map, List.length_take, sizeLine_eq]; omega, ?_⟩
    rw [List.take_add_one, em, List.map_append]
    exact b3
  · rintro Hx ⟨W, q1, q2, q3, q4⟩
    rw [List.length_map, List.take_length] at q2
    have s0x : Same H Hx := fun b o z => q4 _ _ (s2 _ _ (s1 _ _ z))
    have lW : W.length ≤ 3 := by
      have := congrArg List.length q2
      rw [List.length_map, List.length_map] at this
      omega
    have inW : ∀ e ∈ W, e.2.length = 2 := fun e he => by
      have : e.2 ∈ ms.map fun m => [m, m] := by
        rw [← q2]
        exact List.mem_map.mpr ⟨e, he, rfl⟩
      obtain ⟨m, _, e1⟩ := List.mem_map.mp this
      rw [← e1]
      rfl
    have nd2 : (ms.map fun m => [m, m]).Nodup := List.pairwise_map.mpr (List.Pairwise.imp (fun {a b} ne e => ne (List.cons.inj e).1) S.ok.2.2.1.nodup)
    exact ⟨l, A, D', ms, 1, ls, W, rfl, Tl.to q4, s0x _ _ S.a, q1, ⟨fun e he => (q3 e he).2, inW, by omega⟩, by rw [q2]; exact nd2, fun r => by rw [ml, q2], S.few, by decide, fun H3 s3 => ⟨true, rfl, iteF (k H3 fun b o z => s3 _ _ (s0x _ _ z))⟩⟩
end
end Yt

set_option Elab.async false
set_option linter.all false
set_option maxRecDepth 100000
set_option maxHeartbeats 4000000
namespace Yt
open PySem PySem.Spec PyProof.Rows L2
/-- a table stands although another list changes -/
theorem TableAt.butN {C : Addr} {H H' : Hp} {p q : Addr} {xs : List V} {ms : List Str} {d : Nat} {rs : List (List Str)} (T : TableAt C H p ms d rs) (hq : H q = some (.lst xs)) (fr : ∀ (A R : Addr) (n : Int) (e : Addr), H p = some (.ins C e (tf A n R)) → A ≠ q ∧ R ≠ q) (b : But q H H') : TableAt C H' p ms d rs := by
  obtain ⟨dx, A, R, M, h1, h2, h3, h4, h5⟩ := T
  obtain ⟨f1, f2⟩ := fr A R _ dx h1
  refine ⟨dx, A, R, M, b _ _ (fun z => ?_) h1, b _ _ f1 h2, b _ _ f2 h3, ⟨fun e he => b _ _ (fun z => ?_) (h4.at_ e he), h4.len, h4.few⟩, h5⟩
  · rw [z, hq] at h1
    cases h1
  · have h := h4.at_ e he
    rw [z, hq] at h
    cases h
theorem make_tableF {C : Addr} {H : Hp} {a l : Addr} {d : Nat} {ms : List Str} {M0 : List (Addr × List Str)} {Q : Addr → Hp → Prop} {E : XK} (ha : H a = some (.lst (ms.map V.str))) (ok : MarksOk ms) (hd : d ≤ 3) (hl : H l = some (.lst (M0.map fun e => V.ref e.1))) (hR : RowsIn H d M0) (over : ∀ e ∈ M0, ∀ z ∈ e.2, z ∈ ms)
    (k : ∀ (p : Addr) (H' : Hp) (rs : List (List Str)), H p = none → (∀ r, r ∈ rs ↔ r ∈ M0.map (·.2)) → TableAt C H' p ms d rs → (∀ (A R : Addr) (n : Int) (e : Addr), H' p = some (.ins C e (tf A n R)) → H A = none ∧ H R = none) → Same H H' → Q p H') :
    ∀ x dx, H x = none → H dx = none → dx ≠ x → spTInit C (.ref x :: ([.ref a, .int ((d + 1 : Nat) : Int), .ref l] ++ [])) (upd (upd H dx (.own x)) x (.ins C dx [])) (fun v H2 => v = .non ∧ Q x H2) E := by
  intro x dx nx ndx ne
  have s : Same H (upd (upd H dx (.own x)) x (.ins C dx [])) := fun b o e => by
    rw [upd_ne (ne_of_none e nx), upd_ne (ne_of_none e ndx)]
    exact e
  exact ⟨x, dx, a, l, d, ms, M0, rfl, upd_same, s _ _ ha, ok, hd, s _ _ hl, hR.to s, over, fun H' rs mem T fr b => ⟨rfl, k x H' rs nx mem T (fun A R n e he => ⟨none_back s (fr A R n e he).1, none_back s (fr A R n e he).2⟩) fun c o e => b _ _ (ne_of_none e nx) (s _ _ e)⟩⟩
def spLaw (K : PySem.W.Frag) : Sp := fun vs H Q _ => ∃ (a : Addr) (ns : List Int), vs = [.ref a] ∧ SqL K H a (ns.map V.int) ∧ ns.length ≤ 63 ∧ ∀ H', Q (.bl true) H'
theorem rws_of {H : Hp} {L : Addr} {ms : List Str} {d : Nat} {M : List (Addr × List Str)} (h1 : H L = some (.lst (M.map fun e => V.ref e.1))) (h2 : RowsIn H d M) (h3 : Up (M.map (·.2))) (h4 : ∀ e ∈ M, ∀ z ∈ e.2, z ∈ ms) : Rws H L ms d M := ⟨h1, h2, h3, fun r hr => by
  obtain ⟨y, hy, rfl⟩ := List.mem_map.mp hr
  exact ⟨h2.len y hy, h4 y hy⟩⟩
theorem Rws.over_ {H : Hp} {L : Addr} {ms : List Str} {d : Nat} {M : List (Addr × List Str)} (h : Rws H L ms d M) : ∀ e ∈ M, ∀ z ∈ e.2, z ∈ ms := fun e he => h.over e.2 (List.mem_map.mpr ⟨e, he, rfl⟩)
section
variable {P : Program} {w : World} {K : PySem.W.Frag} {mg : Str → Option Value} {base : Heap} {f : Addr} {fd : FuncData} {C : Addr}
theorem ok_law (F : FnP K "law" sLaw f fd) (Cs : CalsL P w K mg base C) (T : Nm mg) (T6 : Nm6 mg) : FnOk P w K mg base CX0 9 f fd ["_law_script"] (spLaw K) := by
  obtain ⟨fP, dP, GP, bP, kP, gP⟩ := Cs.purses.ex
  obtain ⟨fD, dD, GD, bD, kD, gD⟩ := Cs.draw.ex
  obtain ⟨fM, dM, GM, bM, kM, gM⟩ := Cs.marks.ex
  obtain ⟨fR, dR, GR, bR, kR', gR⟩ := Cs.drawn.ex
  obtain ⟨fC, dC, GC, bC, kC, gC⟩ := Cs.right.ex
  obtain ⟨fT, dT, GT, bT, kT, gT⟩ := Cs.pairT.ex
  obtain ⟨fH, dH, GH, bH, kH, gH⟩ := Cs.chained.ex
  obtain ⟨fI, dI, GI, bI, mk⟩ := Cs.tm.ini
  obtain ⟨fA, dA, GA, bA, mA⟩ := Cs.tm.marks
  obtain ⟨fW, dW, GW, bW, mW⟩ := Cs.tm.rows
  have TT := Cs.tm.tc
  refine F.ok scLaw (fun vs H Q E h => ?_) (fun cdv A outer s H vs Q E hr h => ?_)
  · obtain ⟨a, ns, rfl, _⟩ := h
    rfl
  · obtain ⟨a, ns, rfl, hS, hl, k⟩ := h
    have pw : PSs (LX P w K mg base f cdv A outer s H E) (forBody (stA 8)) _ := pss_cons (st_fellow Cs hr) (pss_one (st_lies Cs hr))
    have pu : PSs (LX P w K mg base f cdv A outer s H E) (forBody (stB 3)) _ := pss_cons (ps_set (i := 18) scLaw.nd rfl (Or.inl rfl) (pe_call GH (hr.mono (by decide)) rfl gH kH bH .nil pass0 (pa_cons (pe_make mk GI (hr.mono (by decide)) rfl TT.mgC bI .nil pass0 (pa_cons (pv 2) (pa_cons pe_int (pa_cons (pv 16) pa_nil)))) (pa_cons (pe_make mk GI (hr.mono (by decide)) rfl TT.mgC bI .nil pass0 (pa_cons (pv 2) (pa_cons pe_int (pa_cons (pv 17) pa_nil)))) pa_nil)))) (pss_one (st_link Cs hr))
    have pa : PSs (LX P w K mg base f cdv A outer s H E) (forBody ((forBody stP).getD 1 noSt)) _ :=
      (pss_cons (ps_set (i := 4) scLaw.nd rfl (Or.inl rfl) (pe_call GR (hr.mono (by decide)) rfl gR kR' bR .nil pass0 (pa_cons (pv 1) (pa_cons (pv 2) (pa_cons (pv 3) (pa_cons pe_int pa_nil))))))
      (pss_cons (ps_if (pt_not (pt_val (pe_call GC (hr.mono (by decide)) rfl gC kC bC .nil pass0 (pa_cons (pv 1) (pa_cons (pv 2) (pa_cons (pv 3) (pa_cons (pv 4) pa_nil))))))) (pss_one (ps_ret pe_bl)) pss_nil)
      (pss_cons (st_full Cs hr)
      (pss_cons (ps_set (i := 5) scLaw.nd rfl (Or.inr rfl) (pe_call GR (hr.mono (by decide)) rfl gR kR' bR .nil pass0 (pa_cons (pv 1) (pa_cons (pv 2) (pa_cons (pv 3) (pa_cons pe_int pa_nil))))))
      (pss_cons (ps_par (i := 6) (j := 7) (by rfl) scLaw.nd rfl rfl (by decide) rfl rfl (pa_cons (pe_make mk GI (hr.mono (by decide)) rfl TT.mgC bI .nil pass0 (pa_cons (pv 2) (pa_cons (pv 3) (pa_cons (pv 4) pa_nil)))) (pa_cons (pe_make mk GI (hr.mono (by decide)) rfl TT.mgC bI .nil pass0 (pa_cons (pe_callTy call_list_of (by rfl) T6.list (by decide +kernel) (pa_cons (pv 2) pa_nil)) (pa_cons (pv 3) (pa_cons (pe_revL (pv 5)) pa_nil)))) pa_nil)) (by rfl))
      (pss_cons (st_both hr)
      (pss_cons (st_cut Cs hr)
      (pss_cons (ps_set (i := 9) scLaw.nd rfl (Or.inl rfl) (pe_call GR (hr.mono (by decide)) rfl gR kR' bR .nil pass0 (pa_cons (pv 1) (pa_cons (pv 2) (pa_cons (pv 3) (pa_cons pe_int pa_nil))))))
      (pss_cons (ps_for PassesOwn.never rfl (pi_tup (pe_tup (pa_cons (pv 9) (pa_cons (pv 5) (pa_cons (pv 9) pa_nil))))) (pg_name (i := 10) scLaw.nd rfl (Or.inr rfl)) pw)
      (pss_one (st_eqs Cs hr)))))))))))
    have pb : PSs (LX P w K mg base f cdv A outer s H E) (forBody ((forBody stP).getD 2 noSt)) _ :=
      (pss_cons (ps_asg (pe_call GT (hr.mono (by decide)) rfl gT kT bT .nil pass0 (pa_cons (pv 1) (pa_cons (pv 2) pa_nil))) (pg_unl (n := 2) rfl (pgs_cons (pg_name (i := 14) scLaw.nd rfl (Or.inl rfl)) (pgs_cons (pg_name (i := 15) scLaw.nd rfl (Or.inl rfl)) pgs_nil))))
      (pss_cons (ps_asg (pe_tup (pa_cons (pe_make mk GI (hr.mono (by decide)) rfl TT.mgC bI .nil pass0 (pa_cons (pv 2) (pa_cons pe_int (pa_cons (pv 14) pa_nil)))) (pa_cons (pe_make mk GI (hr.mono (by decide)) rfl TT.mgC bI .nil pass0 (pa_cons (pv 2) (pa_cons pe_int (pa_cons (pv 15) pa_nil)))) pa_nil))) (pg_tup rfl (pgs_cons (pg_name (i := 6) scLaw.nd rfl (Or.inl rfl)) (pgs_cons (pg_name (i := 5) scLaw.nd rfl (Or.inr rfl)) pgs_nil))))
      (pss_cons (st_turn Cs hr)
      (pss_cons (ps_for PassesOwn.never rfl (pi_tup (pe_tup (pa_cons (pe_tup (pa_cons (pv 14) (pa_cons (pv 15) pa_nil))) (pa_cons (pe_tup (pa_cons (pv 15) (pa_cons (pv 14) pa_nil))) pa_nil)))) (pg_tup rfl (pgs_cons (pg_name (i := 16) scLaw.nd rfl (Or.inl rfl)) (pgs_cons (pg_name (i := 17) scLaw.nd rfl (Or.inl rfl)) pgs_nil))) pu)
      (pss_one (st_back Cs hr))))))
    refine ⟨_, PSs.nox (pss_cons (ps_for PassesOwn.never rfl (pi_list (pe_call GP (hr.mono (by decide)) rfl gP kP bP .nil pass0 (pa_cons (pv 0) (pa_cons pe_int pa_nil)))) (pg_name (i := 1) scLaw.nd rfl (Or.inl rfl))
      (pss_cons (ps_set (i := 2) scLaw.nd rfl (Or.inl rfl) (pe_call GM (hr.mono (by decide)) rfl gM kM bM .nil pass0 (pa_cons (pv 1) (pa_cons (pe_op op_add pe_int (pe_call GD (hr.mono (by decide)) rfl gD kD bD .nil pass0 (pa_cons (pv 1) (pa_cons pe_int pa_nil)))) pa_nil))))
      (pss_cons (ps_for PassesOwn.never rfl (pi_tup (pe_tup (pa_cons pe_int (pa_cons pe_int (pa_cons pe_int (pa_cons pe_int pa_nil)))))) (pg_name (i := 3) scLaw.nd rfl (Or.inl rfl)) pa)
      (pss_cons (ps_for PassesOwn.never rfl (pi_range1 rfl T.range (pa_cons pe_int pa_nil)) (pg_name (i := 13) scLaw.nd rfl (Or.inl rfl)) pb)
      (pss_cons (ps_set (i := 19) scLaw.nd rfl (Or.inl rfl) (pe_lst (pa_cons (pe_callTy call_list_of (by rfl) T6.list (by decide +kernel) (pa_cons (pv 2) pa_nil)) (pa_cons (pe_callTy call_list_of (by rfl) T6.list (by decide +kernel) (pa_cons (pv 14) pa_nil)) pa_nil))))
      (pss_cons (ps_set (i := 20) scLaw.nd rfl (Or.inl rfl) (pe_make mk GI (hr.mono (by decide)) rfl TT.mgC bI .nil pass0 (pa_cons (pe_ix ix_list (pv 19) pe_int (fun _ _ => rfl)) (pa_cons pe_int (pa_cons (pe_ix ix_list (pv 19) pe_int (fun _ _ => rfl)) pa_nil)))))
      (pss_cons (ps_expr (pe_bm PySem.F.plainAttrs_list PySem.F.slot_list_append PySem.F.type_list_append mt_append (pe_ix ix_list (pv 19) pe_int (fun _ _ => rfl)) (pa_cons pe_str pa_nil)))
      (pss_cons (ps_expr (pe_bm PySem.F.plainAttrs_list PySem.F.slot_list_append PySem.F.type_list_append mt_append (pe_ix ix_list (pv 19) pe_int (fun _ _ => rfl)) (pa_cons pe_non pa_nil)))
      (pss_cons (ps_expr (pe_bm PySem.F.plainAttrs_list PySem.F.slot_list_append PySem.F.type_list_append mt_append (pe_meth0 (pv 20) TT.cl mA GA (hr.mono (by decide)) bA .nil pass0) (pa_cons pe_non pa_nil)))
      (pss_cons (ps_expr (pe_bm PySem.F.plainAttrs_list PySem.F.slot_list_append PySem.F.type_list_append mt_append (pe_meth0 (pv 20) TT.cl mW GW (hr.mono (by decide)) bW .nil pass0) (pa_cons pe_non pa_nil)))
      (pss_one (st_end Cs hr))))))))))))
      (pss_one (ps_ret pe_bl))), ?_⟩
    refine ⟨_, rfl, a, ns, 1, rfl, hS, hl, ⟨by decide, by decide⟩, fun L ps H1 hne hlen hL1n hL1 hps hnd s1 => ?_⟩
    obtain ⟨p, rfl⟩ : ∃ p, ps = [p] := by
      match ps, hne, hlen with
      | [p], _, _ => exact ⟨p, rfl⟩
      | p :: q :: r, _, h => simp only [List.length_cons] at h; omega
    obtain ⟨hP1, _, hpL⟩ := hps p (List.mem_singleton.mpr rfl)
    refine ⟨L, rfl, ⟨_, SqL.of hL1⟩, for_list (K := K) (a := L) (xs := [V.ref p]) (fun i σ H2 => (∃ v1 v2 v3 v4 v5 v6 v7 v8 v9 v10 v11 v12 v13 v14 v15 v16 v17 v18 v19 v20 v21 v22 : Option V, σ = [some (.ref a), v1, v2, v3, v4, v5, v6, v7, v8, v9, v10, v11, v12, v13, v14, v15, v16, v17, v18, v19, v20, v21, v22]) ∧ (i = 0 → H2 = H1) ∧ H2 L = some (.lst [.ref p]))
      ⟨⟨_, _, _, _, _, _, _, _, _, _, _, _, _, _, _, _, _, _, _, _, _, _, rfl⟩, fun _ => rfl, hL1⟩ (fun i σ H2 _ ⟨_, _, h⟩ => SqL.of h) ?_ ?_⟩
    · rintro i u0 σ Hb hi ⟨⟨v1, v2, v3, v4, v5, v6, v7, v8, v9, v10, v11, v12, v13, v14, v15, v16, v17, v18, v19, v20, v21, v22, rfl⟩, h0, hLk⟩
      obtain rfl : i = 0 := by
        have := (List.getElem?_eq_some_iff.mp hi).1
        simp only [List.length_singleton] at this
        omega
      obtain rfl := h0 rfl
      obtain rfl : V.ref p = u0 := Option.some.inj hi
      refine ⟨_, rfl, _, rfl, p, 1100, _, rfl, hP1.less (show 1101 ≤ FUEL by decide), ⟨by decide, by decide⟩, fun r H2 r0 r1 hP2 hB2 => ?_⟩
      have r2 : r < 3 := r1
      refine ⟨_, _, rfl, rfl, p, 1000, 1 + r, rfl, by omega, by omega, hP2.less (by omega), fun A ms H3 lm asc words nA hA hP3 hB3 => ?_⟩
      have ok : MarksOk ms := ⟨by omega, by omega, asc, words⟩
      have few : ms.length ≤ 3 := by omega
      have pos : 0 < ms.length := by omega
      have l4 : 4 ≤ sizeLine := by decide
      have l3 : 3 ≤ sizeLine := by decide
      have l2 : 2 ≤ sizeLine := by decide
      refine ⟨l4, fun tt nt => ?_⟩
      have q5 := same_new (o := .tup [V.int 1, V.int 2, V.int 3, V.int 4]) nt
      have b5 := upd_same (H := H3) (a := tt) (o := .tup [V.int 1, V.int 2, V.int 3, V.int 4])
      have hP5 : PurseAt (upd H3 tt (.tup [V.int 1, V.int 2, V.int 3, V.int 4])) p 1000 := hP3.to fun o z => q5 _ _ z
      have bL : But p Hb (upd H3 tt (.tup [V.int 1, V.int 2, V.int 3, V.int 4])) := fun b o nb z => q5 _ _ (hB3 _ _ nb (hB2 _ _ nb z))
      have S5 : Mks (upd H3 tt (.tup [V.int 1, V.int 2, V.int 3, V.int 4])) A ms := ⟨q5 _ _ hA, ok, few⟩
      generalize upd H3 tt (.tup [V.int 1, V.int 2, V.int 3, V.int 4]) = G at b5 hP5 bL S5 ⊢
      let Ds : List Nat := [0, 1, 2, 3]
      have hDs : ∀ d ∈ Ds, d ≤ 3 := by decide
      refine ⟨tt, rfl, ⟨_, SqT.of b5⟩, for_tup (K := K) (a := tt) (xs := Ds.map fun d => V.int ((d + 1 : Nat) : Int)) (fun j σ Hc => (∃ v3 v4 v5 v6 v7 v8 v9 v10 v11 v12 v13 v14 v15 v16 v17 v18 v19 v20 v21 v22 : Option V, σ = [some (.ref a), some (.ref p), some (.ref A), v3, v4, v5, v6, v7, v8, v9, v10, v11, v12, v13, v14, v15, v16, v17, v18, v19, v20, v21, v22]) ∧ PurseAt Hc p (400 + 150 * (4 - j)) ∧ But p G Hc)
        ⟨⟨_, _, _, _, _, _, _, _, _, _, _, _, _, _, _, _, _, _, _, _, rfl⟩, hP5.less (by decide), fun _ _ _ z => z⟩ (fun j σ Hc _ ⟨_, _, z⟩ => SqT.of (z _ _ (purse_nt hP5 b5) b5)) ?_ ?_⟩
      · rintro j u σ Hc hj ⟨⟨v3, v4, v5, v6, v7, v8, v9, v10, v11, v12, v13, v14, v15, v16, v17, v18, v19, v20, v21, v22, rfl⟩, hPc, hBc⟩
        rw [List.getElem?_map] at hj
        obtain ⟨d, hd, rfl⟩ := Option.map_eq_some_iff.mp hj
        have j4 : j < 4 := (List.getElem?_eq_some_iff.mp hd).1
        have d3 := hDs d (List.mem_of_getElem? hd)
        obtain ⟨fu, eg⟩ : ∃ fu, fu = 400 + 150 * (4 - (j + 1)) := ⟨_, rfl⟩
        have hPc : PurseAt Hc p (fu + 150) := hPc.less (by omega)
        have Sc := S5.but hP5 hBc
        rw [← eg]
        -- rows
        refine ⟨_, rfl, _, rfl, _, rfl, p, A, fu + 120, d, 7, ms, rfl, by decide, hPc.less (by omega), Sc.a, purse_ne hPc Sc.a, pos, few, d3, fun L1 M1 K1 nL1 hL1' R1' up1 f1 or1 np1 hPd hBd => ?_⟩
        have S1 := Sc.but hPc hBd
        have R1 : Rws K1 L1 ms d M1 := rws_of hL1' R1' up1 or1
        -- chosen
        refine ⟨_, rfl, _, rfl, _, rfl, _, rfl, p, A, L1, fu + 90, d, ms, M1, rfl, hPd, S1.a, ok, few, d3, R1, f1, fun K2 hPe hBe => ⟨true, rfl, iteF ?_⟩⟩
        have S2 := S1.but hPd hBe
        have R2 := R1.but hPd hBe
        -- full
        refine ⟨_, _, _, _, _, _, _, _, _, _, _, _, _, _, _, _, _, _, _, _, _, A, ms, d, rfl, S2, d3, fun K3 s3 => ?_⟩
        have S3 := S2.to s3
        have R3 := R2.to s3
        have hP3' : PurseAt K3 p (fu + 90) := hPe.to fun o z => s3 _ _ z
        -- other
        refine ⟨_, rfl, _, rfl, _, rfl, p, A, fu + 60, d, 7, ms, rfl, by decide, hP3'.less (by omega), S3.a, purse_ne hP3' S3.a, pos, few, d3, fun L2 M2 K4 nL2 hL2' R2' up2 f2 or2 np2 hP4 hB4 => ?_⟩
        have S4 := S3.but hP3' hB4
        have R4 := R3.but hP3' hB4
        have O4 : Rws K4 L2 ms d M2 := rws_of hL2' R2' up2 or2
        -- one, late
        refine ⟨_, rfl, _, rfl, _, rfl, ?_⟩
        refine make_tableA (C := C) S4.a ok d3 R4.at_ R4.inn R4.over_ fun p1 K5 rs np1' mr T1 s5 => ?_
        obtain rfl : rs = M1.map (·.2) := up_same T1.up R4.up mr
        have S5' := S4.to s5
        have O5 := O4.to s5
        refine ⟨_, rfl, A, _, rfl, .inl (SqL.of S5'.a), fun A2 nA2 => ?_⟩
        have w1 := same_new (o := .lst (ms.map V.str)) nA2
        have c1 := upd_same (H := K5) (a := A2) (o := .lst (ms.map V.str))
        generalize upd K5 A2 (.lst (ms.map V.str)) = K6 at w1 c1 ⊢
        have O6 := O5.to w1
        refine ⟨_, rfl, _, rfl, L2, _, rfl, SqL.of O6.at_, fun l nl => ?_⟩
        rw [← List.map_reverse]
        have w2 := same_new (o := .lst (M2.reverse.map fun e => V.ref e.1)) nl
        have c2 := upd_same (H := K6) (a := l) (o := .lst (M2.reverse.map fun e => V.ref e.1))
        generalize upd K6 l (.lst (M2.reverse.map fun e => V.ref e.1)) = K7 at w2 c2 ⊢
        have pm : M2.reverse.Perm M2 := List.reverse_perm M2
        refine make_tableA (C := C) (w2 _ _ c1) ok d3 c2 ((O6.inn.perm pm).to w2) (fun e he => O6.over_ e (pm.mem_iff.mp he)) fun p2 K8 us np2' mu T2 s8 => ⟨_, _, rfl, ?_⟩
        obtain rfl : us = M2.map (·.2) := up_same T2.up O6.up fun r => (mu r).trans (pm.map (·.2)).mem_iff
        have s48 : Same K4 K8 := fun b o z => s8 _ _ (w2 _ _ (w1 _ _ (s5 _ _ z)))
        have s58 : Same K5 K8 := fun b o z => s8 _ _ (w2 _ _ (w1 _ _ z))
        have S8 := S4.to s48
        have R8 := R4.to s48
        have O8 := O4.to s48
        have T18 := T1.to s58
        have l81 : M1.length ≤ 81 := by omega
        -- both
        refine ⟨_, _, _, _, _, _, _, _, _, _, _, _, _, _, _, _, _, _, _, _, _, L1, L2, M1, M2, rfl, R8.rows, O8.rows, l81, fun Db Wb K9 hDb eWb s9 => ?_⟩
        refine ⟨_, _, _, _, _, _, _, _, _, _, _, _, _, _, _, _, _, A, L1, p1, p2, Db, ms, d, M1, Wb, _, rfl, S8.to s9, d3, R8.to s9, T18.to s9, T2.to s9, O8.over, hDb, eWb, fun K10 s10 => ?_⟩
        have s80 : Same K8 K10 := fun b o z => s10 _ _ (s9 _ _ z)
        have S10 := S8.to s80
        have R10 := R8.to s80
        have O10 := O8.to s80
        have T1a := T18.to s80
        have T2a := T2.to s80
        have hPf : PurseAt K10 p (fu + 60) := hP4.to fun o z => s80 _ _ (s48 _ _ z)
        -- third
        refine ⟨_, rfl, _, rfl, _, rfl, p, A, fu + 31, d, 7, ms, rfl, by decide, hPf.less (by omega), S10.a, purse_ne hPf S10.a, pos, few, d3, fun L3 M3 K11 nL3 hL3' R3' up3 f3 or3 np3 hPg hBg => ?_⟩
        have S11 := S10.but hPf hBg
        have R11 := R10.but hPf hBg
        have O11 := O10.but hPf hBg
        have T1b := T1a.butP hPf hBg
        have T2b := T2a.butP hPf hBg
        have Th : Rws K11 L3 ms d M3 := rws_of hL3' R3' up3 or3
        refine ⟨_, rfl, _, rfl, _, rfl, l3, fun t3 nt3 => ?_⟩
        have w3 := same_new (o := .tup [V.ref L3, V.ref L2, V.ref L3]) nt3
        have c3 := upd_same (H := K11) (a := t3) (o := .tup [V.ref L3, V.ref L2, V.ref L3])
        generalize upd K11 t3 (.tup [V.ref L3, V.ref L2, V.ref L3]) = K12 at w3 c3 ⊢
        have each : ∀ x ∈ [V.ref L3, V.ref L2, V.ref L3], ∃ (O : Addr) (N : List (Addr × List Str)), x = .ref O ∧ Rws K12 O ms d N := fun x hx => by
          simp only [List.mem_cons, List.not_mem_nil, or_false] at hx
          rcases hx with rfl | rfl | rfl
          · exact ⟨L3, M3, rfl, Th.to w3⟩
          · exact ⟨L2, M2, rfl, O11.to w3⟩
          · exact ⟨L3, M3, rfl, Th.to w3⟩
        refine ⟨t3, rfl, ⟨_, SqT.of c3⟩, for_tup (K := K) (a := t3) (xs := [V.ref L3, V.ref L2, V.ref L3]) (fun i σ He => (∃ v8 v9 v10 v11 v12 v13 v14 v15 v16 v17 v18 v19 v20 v21 v22 : Option V, σ = [some (.ref a), some (.ref p), some (.ref A), some (.int ((d + 1 : Nat) : Int)), some (.ref L1), some (.ref L2), some (.ref p1), some (.ref p2), v8, v9, v10, v11, v12, v13, v14, v15, v16, v17, v18, v19, v20, v21, v22]) ∧ Same K12 He)
          ⟨⟨_, _, _, _, _, _, _, _, _, _, _, _, _, _, _, rfl⟩, fun _ _ z => z⟩ (fun i σ He _ ⟨_, z⟩ => SqT.of (z _ _ c3)) ?_ ?_⟩
        · rintro i x σ He hx ⟨⟨v8, v9, v10, v11, v12, v13, v14, v15, v16, v17, v18, v19, v20, v21, v22, rfl⟩, se⟩
          obtain ⟨O, N, rfl, RO⟩ := each x (List.mem_of_getElem? hx)
          have sk : Same K11 He := fun b o z => se _ _ (w3 _ _ z)
          refine ⟨_, _, _, _, _, _, _, _, _, _, _, _, _, _, _, _, _, _, _, A, L1, O, ms, d, M1, N, rfl, S11.to sk, d3, R11.to sk, RO.to se, fun q D' Wf E1 Tq hDf eWf u1 => ?_⟩
          have sk1 : Same K11 E1 := fun b o z => u1 _ _ (sk _ _ z)
          refine ⟨_, _, _, _, _, _, _, _, _, _, _, _, _, _, _, _, _, A, L1, p1, q, D', ms, d, M1, Wf, _, rfl, S11.to sk1, d3, R11.to sk1, T1b.to sk1, Tq, hDf, eWf, fun E2 u2 => ?_⟩
          exact ⟨⟨_, _, _, _, _, _, _, _, _, _, _, _, _, _, _, rfl⟩, fun b o z => u2 _ _ (u1 _ _ (se _ _ z))⟩
        · rintro σ He ⟨⟨v8, v9, v10, v11, v12, v13, v14, v15, v16, v17, v18, v19, v20, v21, v22, rfl⟩, se⟩
          have sk : Same K11 He := fun b o z => se _ _ (w3 _ _ z)
          refine ⟨_, _, _, _, _, _, _, _, _, _, _, _, _, _, _, _, _, A, L1, L2, p1, p2, ms, d, M1, M2, rfl, S11.to sk, d3, R11.to sk, O11.to sk, T1b.to sk, T2b.to sk, fun E1 u1 => ?_⟩
          have sk1 : Same K11 E1 := fun b o z => u1 _ _ (sk _ _ z)
          exact ⟨⟨_, _, _, _, _, _, _, _, _, _, _, _, _, _, _, _, _, _, _, _, rfl⟩, (hPg.less (by omega)).to fun o z => sk1 _ _ z, fun b o nb z => sk1 _ _ (hBg _ _ nb (s80 _ _ (s48 _ _ (hB4 _ _ nb (s3 _ _ (hBe _ _ nb (hBd _ _ nb (hBc _ _ nb z))))))))⟩
      · rintro σ Hc ⟨⟨v3, v4, v5, v6, v7, v8, v9, v10, v11, v12, v13, v14, v15, v16, v17, v18, v19, v20, v21, v22, rfl⟩, hPc, hBc⟩
        have Sc := S5.but hP5 hBc
        -- three turns
        refine ⟨_, rfl, by decide, by decide, for_range (lo := 0) (n := (3 : Int).toNat) (fun i σ Hd => ∃ (v3 v4 v5 v6 v7 v8 v9 v10 v11 v12 v13 v15 v16 v17 v18 v19 v20 v21 v22 : Option V) (v14 : Option V), σ = [some (.ref a), some (.ref p), some (.ref A), v3, v4, v5, v6, v7, v8, v9, v10, v11, v12, v13, v14, v15, v16, v17, v18, v19, v20, v21, v22] ∧ (i ≠ 0 → ∃ (Lm : Addr) (Mm : List (Addr × List Str)), v14 = some (.ref Lm) ∧ Rws Hd Lm ms 1 Mm) ∧ PurseAt Hd p (60 * (4 - i)) ∧ But p Hc Hd)
          ⟨_, _, _, _, _, _, _, _, _, _, _, _, _, _, _, _, _, _, _, _, rfl, fun z => absurd rfl z, hPc.less (by decide), fun _ _ _ z => z⟩ ?_ ?_⟩
        · rintro i σ Hd hi ⟨v3, v4, v5, v6, v7, v8, v9, v10, v11, v12, v13, v15, v16, v17, v18, v19, v20, v21, v22, v14, rfl, _, hPd, hBd⟩
          have hi : i < 3 := hi
          have e6 : 60 * (4 - i) = (60 * (4 - (i + 1)) + 10) + 50 := by omega
          rw [e6] at hPd
          have Sd := Sc.but hPc hBd
          refine ⟨_, rfl, _, rfl, p, A, _, ms, rfl, hPd, Sd.a, purse_ne hPd Sd.a, pos, few, fun D Lm Lt Mm Mt K1 hD Rm Rt hP1' hB1' => ?_⟩
          have S1 := Sd.but hPd hB1'
          refine ⟨D, _, rfl, SqL.of hD, rfl, _, _, rfl, _, _, rfl, rfl, ?_⟩
          refine ⟨_, rfl, _, rfl, ?_⟩
          refine make_tableA (C := C) (d := 1) S1.a ok (by decide) Rm.at_ Rm.inn Rm.over_ fun p1 K2 rs np1 mr T1 s2 => ?_
          obtain rfl : rs = Mm.map (·.2) := up_same T1.up Rm.up mr
          refine ⟨_, rfl, _, rfl, ?_⟩
          refine make_tableA (C := C) (d := 1) (S1.to s2).a ok (by decide) (Rt.to s2).at_ (Rt.to s2).inn Rt.over_ fun p2 K3 us np2 mu T2 s3 => ?_
          obtain rfl : us = Mt.map (·.2) := up_same T2.up Rt.up mu
          have s13 : Same K1 K3 := fun b o z => s3 _ _ (s2 _ _ z)
          refine ⟨l2, fun tp ntp => ?_⟩
          have w4 := same_new (o := .tup [V.ref p1, V.ref p2]) ntp
          have c4 := upd_same (H := K3) (a := tp) (o := .tup [V.ref p1, V.ref p2])
          generalize upd K3 tp (.tup [V.ref p1, V.ref p2]) = K4 at w4 c4 ⊢
          have s14 : Same K1 K4 := fun b o z => w4 _ _ (s13 _ _ z)
          have T1' := (T1.to s3).to w4
          have T2' := T2.to w4
          refine ⟨tp, _, rfl, SqT.of c4, rfl, _, _, rfl, _, _, rfl, rfl, ?_⟩
          refine ⟨_, _, _, _, _, _, _, _, _, _, _, _, _, _, _, _, _, _, _, _, A, p1, Lm, ms, Mm, rfl, S1.to s14, Rm.to s14, T1', fun K5 s5 => ?_⟩
          have s15 : Same K1 K5 := fun b o z => s5 _ _ (s14 _ _ z)
          refine ⟨_, rfl, _, rfl, l2, fun ta nta => ?_⟩
          have w5 := same_new (o := .tup [V.ref Lm, V.ref Lt]) nta
          have c5 := upd_same (H := K5) (a := ta) (o := .tup [V.ref Lm, V.ref Lt])
          generalize upd K5 ta (.tup [V.ref Lm, V.ref Lt]) = K6 at w5 c5 ⊢
          refine ⟨_, rfl, _, rfl, l2, fun tb ntb => ?_⟩
          have w6 := same_new (o := .tup [V.ref Lt, V.ref Lm]) ntb
          have c6 := upd_same (H := K6) (a := tb) (o := .tup [V.ref Lt, V.ref Lm])
          generalize upd K6 tb (.tup [V.ref Lt, V.ref Lm]) = K7 at w6 c6 ⊢
          refine ⟨l2, fun tc ntc => ?_⟩
          have w7 := same_new (o := .tup [V.ref ta, V.ref tb]) ntc
          have c7 := upd_same (H := K7) (a := tc) (o := .tup [V.ref ta, V.ref tb])
          generalize upd K7 tc (.tup [V.ref ta, V.ref tb]) = K8 at w7 c7 ⊢
          have s18 : Same K1 K8 := fun b o z => w7 _ _ (w6 _ _ (w5 _ _ (s15 _ _ z)))
          have s48 : Same K4 K8 := fun b o z => w7 _ _ (w6 _ _ (w5 _ _ (s5 _ _ z)))
          have hta := w7 _ _ (w6 _ _ c5)
          have htb := w7 _ _ c6
          have S8 := S1.to s18
          have Rm8 := Rm.to s18
          have Rt8 := Rt.to s18
          have each : ∀ x ∈ [V.ref ta, V.ref tb], ∃ (t X Y : Addr) (MX MY : List (Addr × List Str)), x = .ref t ∧ K8 t = some (.tup [V.ref X, V.ref Y]) ∧ Rws K8 X ms 1 MX ∧ Rws K8 Y ms 1 MY := fun x hx => by
            simp only [List.mem_cons, List.not_mem_nil, or_false] at hx
            rcases hx with rfl | rfl
            · exact ⟨ta, Lm, Lt, Mm, Mt, rfl, hta, Rm8, Rt8⟩
            · exact ⟨tb, Lt, Lm, Mt, Mm, rfl, htb, Rt8, Rm8⟩
          refine ⟨tc, rfl, ⟨_, SqT.of c7⟩, for_tup (K := K) (a := tc) (xs := [V.ref ta, V.ref tb]) (fun i' σ He => (∃ v3 v4 v7 v8 v9 v10 v11 v12 v13 v15 v16 v17 v18 v19 v20 v21 v22 : Option V, σ = [some (.ref a), some (.ref p), some (.ref A), v3, v4, some (.ref p2), some (.ref p1), v7, v8, v9, v10, v11, v12, v13, some (.ref Lm), v15, v16, v17, v18, v19, v20, v21, v22]) ∧ Same K8 He)
            ⟨⟨_, _, _, _, _, _, _, _, _, _, _, _, _, _, _, _, _, rfl⟩, fun _ _ z => z⟩ (fun i' σ He _ ⟨_, z⟩ => SqT.of (z _ _ c7)) ?_ ?_⟩
          · rintro i' x σ He hx ⟨⟨v3, v4, v7, v8, v9, v10, v11, v12, v13, v15, v16, v17, v18, v19, v20, v21, v22, rfl⟩, se⟩
            obtain ⟨t, X, Y, MX, MY, rfl, ht, RX, RY⟩ := each x (List.mem_of_getElem? hx)
            refine ⟨t, _, rfl, SqT.of (se _ _ ht), rfl, _, _, rfl, _, _, rfl, rfl, ?_⟩
            have Se := S8.to se
            have RXe := RX.to se
            have RYe := RY.to se
            refine ⟨_, rfl, _, rfl, ?_⟩
            refine make_tableA (C := C) (d := 1) Se.a ok (by decide) RXe.at_ RXe.inn RXe.over_ fun x1 E1 rs nx1 mr1 X1 u1 => ?_
            obtain rfl : rs = MX.map (·.2) := up_same X1.up RXe.up mr1
            refine ⟨_, rfl, _, rfl, ?_⟩
            refine make_tableA (C := C) (d := 1) (Se.to u1).a ok (by decide) (RYe.to u1).at_ (RYe.to u1).inn RYe.over_ fun x2 E2 us nx2 mr2 X2 u2 => ?_
            obtain rfl : us = MY.map (·.2) := up_same X2.up RYe.up mr2
            refine ⟨x1, x2, ms, _, _, rfl, X1.to u2, X2, ok, few, RXe.over, RYe.over, fun xt E3 ws nxt mw Xt u3 => ?_⟩
            have ue : Same He E3 := fun b o z => u3 _ _ (u2 _ _ (u1 _ _ z))
            refine ⟨_, _, _, _, _, _, _, _, _, _, _, _, _, _, _, _, _, _, _, A, X, Y, xt, ms, MX, MY, ws, rfl, Se.to ue, RXe.to ue, RYe.to ue, Xt, mw, fun E4 u4 => ?_⟩
            exact ⟨⟨_, _, _, _, _, _, _, _, _, _, _, _, _, _, _, _, _, rfl⟩, fun b o z => u4 _ _ (ue _ _ (se _ _ z))⟩
          · rintro σ He ⟨⟨v3, v4, v7, v8, v9, v10, v11, v12, v13, v15, v16, v17, v18, v19, v20, v21, v22, rfl⟩, se⟩
            refine ⟨_, _, _, _, _, _, _, _, _, _, _, _, _, _, _, _, _, _, _, _, A, p1, p2, ms, _, _, rfl, S8.to se, (T1'.to s48).to se, (T2'.to s48).to se, Rm.over, Rt.over, fun E1 u1 => ?_⟩
            have sf : Same K1 E1 := fun b o z => u1 _ _ (se _ _ (s18 _ _ z))
            exact ⟨_, _, _, _, _, _, _, _, _, _, _, _, _, _, _, _, _, _, _, _, rfl, fun _ => ⟨Lm, Mm, rfl, Rm.to sf⟩, (hP1'.less (by omega)).to fun o z => sf _ _ z, fun b o nb z => sf _ _ (hB1' _ _ nb (hBd _ _ nb z))⟩
        · rintro σ Hd ⟨v3, v4, v5, v6, v7, v8, v9, v10, v11, v12, v13, v15, v16, v17, v18, v19, v20, v21, v22, v14, rfl, h14, hPd, hBd⟩
          obtain ⟨Lm, Mm, rfl, Rm⟩ := h14 (by decide)
          have Sd := Sc.but hPc hBd
          -- lent
          refine ⟨_, rfl, A, _, rfl, .inl (SqL.of Sd.a), fun A2 nA2 => ?_⟩
          have w1 := same_new (o := .lst (ms.map V.str)) nA2
          have c1 := upd_same (H := Hd) (a := A2) (o := .lst (ms.map V.str))
          generalize upd Hd A2 (.lst (ms.map V.str)) = K1 at w1 c1 ⊢
          have Rm1 := Rm.to w1
          refine ⟨_, rfl, Lm, _, rfl, .inl (SqL.of Rm1.at_), fun Lp nLp => ?_⟩
          have w2 := same_new (o := .lst (Mm.map fun e => V.ref e.1)) nLp
          have c2 := upd_same (H := K1) (a := Lp) (o := .lst (Mm.map fun e => V.ref e.1))
          generalize upd K1 Lp (.lst (Mm.map fun e => V.ref e.1)) = K2 at w2 c2 ⊢
          have cA2 := w2 _ _ c1
          refine ⟨l2, fun Dl nDl => ?_⟩
          have w3 := same_new (o := .lst [V.ref A2, V.ref Lp]) nDl
          have c3 := upd_same (H := K2) (a := Dl) (o := .lst [V.ref A2, V.ref Lp])
          generalize upd K2 Dl (.lst [V.ref A2, V.ref Lp]) = K3 at w3 c3 ⊢
          have hA3 := w3 _ _ cA2
          have hL3 := w3 _ _ c2
          have s03 : Same Hd K3 := fun b o z => w3 _ _ (w2 _ _ (w1 _ _ z))
          have Rm3 := Rm.to s03
          have nAL : A2 ≠ Lp := fun z => by
            rw [z, nLp] at c1
            cases c1
          have nDA : Dl ≠ A2 := fun z => by
            rw [z, cA2] at nDl
            cases nDl
          have nDL : Dl ≠ Lp := fun z => by
            rw [z, c2] at nDl
            cases nDl
          -- the table
          refine ⟨_, rfl, Dl, _, _, V.ref A2, rfl, rfl, SqL.of c3, rfl, _, rfl, Dl, _, _, V.ref Lp, rfl, rfl, SqL.of c3, rfl, ?_⟩
          refine make_tableF (C := C) (d := 1) hA3 ok (by decide) hL3 Rm3.inn Rm3.over_ fun tb K4 rs ntb mr Tb fr s4 => ?_
          obtain rfl : rs = Mm.map (·.2) := up_same Tb.up Rm.up mr
          have s04 : Same Hd K4 := fun b o z => s4 _ _ (s03 _ _ z)
          have hA4 := s4 _ _ hA3
          have hL4 := s4 _ _ hL3
          have hD4 := s4 _ _ c3
          -- lent[0].append("z")
          refine ⟨_, rfl, Dl, _, _, V.ref A2, rfl, rfl, SqL.of hD4, rfl, .inl ⟨rfl, _, SqL.of hA4⟩, A2, _, _, rfl, rfl, hA4, by rw [List.length_map, sizeLine_eq]; omega, ?_⟩
          have b5 : But A2 K4 (upd K4 A2 (.lst (ms.map V.str ++ [V.str "z"]))) := fun b o nb z => (upd_ne nb).trans z
          have Tb5 : TableAt C (upd K4 A2 (.lst (ms.map V.str ++ [V.str "z"]))) tb ms 1 (Mm.map (·.2)) := Tb.butN hA4 (fun A' R' n e he => ⟨(ne_of_none hA3 (fr A' R' n e he).1).symm, (ne_of_none hA3 (fr A' R' n e he).2).symm⟩) b5
          have hL5 := b5 _ _ nAL.symm hL4
          have hD5 := b5 _ _ nDA hD4
          have ntA : tb ≠ A2 := fun z => by
            rw [z, hA3] at ntb
            cases ntb
          have fr5 : ∀ (A' R' : Addr) (n : Int) (e : Addr), (upd K4 A2 (.lst (ms.map V.str ++ [V.str "z"]))) tb = some (.ins C e (tf A' n R')) → K3 A' = none ∧ K3 R' = none := fun A' R' n e he => fr A' R' n e (by rw [upd_ne ntA] at he; exact he)
          have s05 : Same Hd (upd K4 A2 (.lst (ms.map V.str ++ [V.str "z"]))) := fun b o z => (upd_ne (ne_of_none z nA2)).trans (s04 _ _ z)
          generalize upd K4 A2 (.lst (ms.map V.str ++ [V.str "z"])) = K5 at b5 Tb5 hL5 hD5 fr5 s05 ⊢
          -- lent[1].append(None)
          have l9 : Mm.length ≤ 9 := Rm.few few
          refine ⟨_, rfl, Dl, _, _, V.ref Lp, rfl, rfl, SqL.of hD5, rfl, .inl ⟨rfl, _, SqL.of hL5⟩, Lp, _, _, rfl, rfl, hL5, by rw [List.length_map, sizeLine_eq]; omega, ?_⟩
          have b6 : But Lp K5 (upd K5 Lp (.lst ((Mm.map fun e => V.ref e.1) ++ [V.non]))) := fun b o nb z => (upd_ne nb).trans z
          have Tb6 : TableAt C (upd K5 Lp (.lst ((Mm.map fun e => V.ref e.1) ++ [V.non]))) tb ms 1 (Mm.map (·.2)) := Tb5.butN hL5 (fun A' R' n e he => ⟨(ne_of_none hL3 (fr5 A' R' n e he).1).symm, (ne_of_none hL3 (fr5 A' R' n e he).2).symm⟩) b6
          have s06 : Same Hd (upd K5 Lp (.lst ((Mm.map fun e => V.ref e.1) ++ [V.non]))) := fun b o z => (upd_ne (ne_of_none z (none_back w1 nLp))).trans (s05 _ _ z)
          generalize upd K5 Lp (.lst ((Mm.map fun e => V.ref e.1) ++ [V.non])) = K6 at Tb6 s06 ⊢
          -- table.marks().append(None)
          obtain ⟨dx, B1, R1', N1, g1, _⟩ := id Tb6
          refine ⟨_, rfl, tb, dx, _, rfl, g1, no_attr (by decide +kernel), tb, ms, 1, _, rfl, Tb6, fun La K7 nLa hLa s7 => ?_⟩
          refine ⟨.inl ⟨rfl, _, SqL.of hLa⟩, La, _, _, rfl, rfl, hLa, by rw [List.length_map, sizeLine_eq]; omega, ?_⟩
          have s68 : Same K6 (upd K7 La (.lst (ms.map V.str ++ [V.non]))) := fun b o z => (upd_ne (ne_of_none z nLa)).trans (s7 _ _ z)
          generalize upd K7 La (.lst (ms.map V.str ++ [V.non])) = K8 at s68 ⊢
          have Tb8 := Tb6.to s68
          -- table.rows().append(None)
          obtain ⟨dy, B2, R2', N2, g2, _⟩ := id Tb8
          refine ⟨_, rfl, tb, dy, _, rfl, g2, no_attr (by decide +kernel), tb, ms, 1, _, rfl, Tb8, fun Lb N3 K9 nLb hLb RN3 eN3 s9 => ?_⟩
          have lN3 : N3.length ≤ 1000 := by
            have := RN3.few
            omega
          refine ⟨.inl ⟨rfl, _, SqL.of hLb⟩, Lb, _, _, rfl, rfl, hLb, by rw [List.length_map, sizeLine_eq]; omega, ?_⟩
          have s8a : Same K8 (upd K9 Lb (.lst ((N3.map fun e => V.ref e.1) ++ [V.non]))) := fun b o z => (upd_ne (ne_of_none z nLb)).trans (s9 _ _ z)
          generalize upd K9 Lb (.lst ((N3.map fun e => V.ref e.1) ++ [V.non])) = Ka at s8a ⊢
          have s0a : Same Hd Ka := fun b o z => s8a _ _ (s68 _ _ (s06 _ _ z))
          refine ⟨_, _, _, _, _, _, _, _, _, _, _, _, _, _, _, _, _, _, _, _, A, Lm, tb, ms, Mm, rfl, Sd.to s0a, Rm.to s0a, Tb8.to s8a, fun Kb sb => ?_⟩
          exact ⟨⟨_, _, _, _, _, _, _, _, _, _, _, _, _, _, _, _, _, _, _, _, _, _, rfl⟩, (fun h => by omega), sb _ _ (s0a _ _ (hBd _ _ hpL.symm (hBc _ _ hpL.symm (bL _ _ hpL.symm hLk))))⟩
    · rintro σ Hc ⟨⟨v1, v2, v3, v4, v5, v6, v7, v8, v9, v10, v11, v12, v13, v14, v15, v16, v17, v18, v19, v20, v21, v22, rfl⟩, _, _⟩
      exact k _
end
end Yt

set_option Elab.async false
set_option linter.all false
set_option maxRecDepth 100000
set_option maxHeartbeats 2000000
namespace Yt
open PySem PySem.Spec PyProof.Rows L2
/-! ### the head: what is asked of the written part -/
abbrev defs0 : List (Str × Nat) := [("is_count", 9), ("is_word", 10), ("are_marks", 11), ("check_marks", 12), ("is_row", 16), ("check_width", 17), ("check_table", 18), ("check_pair_table", 19), ("check_same_marks", 20), ("check_same_kind", 21), ("twos_of", 22), ("all_rows", 23), ("full", 24), ("like", 25), ("cut", 26), ("lies_in", 27), ("chosen", 28), ("_are_spots", 29), ("pairs_of", 30), ("turned", 31)]
abbrev defs1 : List (Str × Nat) := [("chained", 32), ("_law_purse", 34), ("_law_mixed", 35), ("_law_draw", 36), ("_law_purses", 37), ("_law_one_of", 38), ("_law_shuffled", 39), ("_law_exact", 40), ("_law_word", 41), ("_law_words", 42), ("_law_marks", 43), ("_law_row", 44), ("_law_drawn_rows", 45), ("_law_every", 46), ("_law_told_table", 47), ("_law_is_table", 48), ("_law_twos_of", 49), ("_law_pair_rows", 50), ("_law_chain_rows", 51), ("_law_pair_of_tables", 52)]
abbrev defs2 : List (Str × Nat) := [("_law_chosen_right", 53), ("law", 54)]
abbrev defNames : List (Str × Nat) := defs0 ++ (defs1 ++ (defs2))
def dF (p : Str × Nat) : He.DefD := ⟨(p.1, none), p.1, p.1, defArgs (top p.2), defBody (top p.2), defScope (top p.2), [], []⟩
def dM (p : Str × Stmt) : He.DefD := ⟨("Table", some p.1), p.1, ("Table." : Str) ++ p.1, defArgs p.2, defBody p.2, defScope p.2, [], []⟩
abbrev methNames : List (Str × Stmt) := [("__init__", sTInit), ("marks", sTMarks), ("width", sTWidth), ("rows", sTRows), ("__eq__", sTEq)]
def fnY : List He.DefD := defNames.map dF ++ methNames.map dM
abbrev freeNames : List Str := ["int", "sum", "max", "min", "range", "len", "isinstance", "list", "tuple", "dict", "bool", "zip", "all", "str", "sorted", "set"]
abbrev tblFacts : List He.Fa := [.int "GREATEST_WIDTH" 4, .glo "Table", .cls "Table", .noat "Table" "_marks", .noat "Table" "_width", .noat "Table" "_rows", .meth "Table" "marks", .meth "Table" "width", .meth "Table" "rows", .meth "Table" "__eq__", .mkr "Table"]
def faY : List He.Fa := defNames.map (fun p => .glo p.1) ++ (freeNames.map (fun x => .free x) ++ tblFacts)
def moreB (K : PySem.W.Frag) : Bool :=
  decide (PySem.W.kitOne K (.ref (He.ga K "Table")) (.ref (He.ga K "Table")) = some true) &&
  (He.eqO (PySem.W.findIn K (.ref (He.ga K "Table")) "__class__") (some (some (.builtin "object.__class__"))) &&
  (He.eqO (PySem.W.specialIn K (.builtin "object.__class__") "__get__") (some (some (.builtin "getset_descriptor.__get__"))) &&
  (decide (PySem.W.takesIn K (.builtin "object.__class__") = some true) &&
  decide (PySem.W.mroIn K (He.ga K "Table") (.type "object") = some true))))
def obY (g : Addr → Option Obj) : He.AlD × Bool := (He.obsD faY fnY (He.frG g (He.asD g 4)), moreB (He.frG g (He.asD g 4)))
def hkY : PySem.W.Hook where
  α := He.AlD × Bool
  obs := fun s => obY s.heap.get?
  val := fun _ => (He.valD fnY, true)
  says := fun _ h => ∃ K : PySem.W.Frag, K.In h ∧ He.SaysD faY fnY K ∧ moreB K = true
  of := fun _ s e => ⟨_, He.frG_in, congrArg Prod.fst e, congrArg Prod.snd e⟩
  keeps := fun _ _ _ ⟨K, a, b⟩ k => ⟨K, fun x o e => k _ _ (a x o e), b⟩
def obT (s : PySem.W.SharedT) : He.AlD × Bool := obY (HandSHeadRun.getT s)
theorem obT_eq (s : PySem.W.SharedT) : obT s = hkY.obs s.abs := by
  show obY _ = obY _
  rw [funext (HandSHeadRun.getT_eq s)]
abbrev R : PySem.W.OpenRow := PySem.W.OpenLaw.row PySem.Challenge.rw_pairtells_k03_whole_tables_cut_chosen_tu
abbrev loose0 : List Str := ["PairError", "InvalidMarks", "InvalidWidth", "InvalidRows", "InvalidTable", "InvalidSpots", "Unlike", "Table", "GREATEST_WIDTH"]
abbrev looseY : List Str := loose0 ++ (defNames.take 41).map Prod.fst
end Yt

set_option Elab.async false
set_option linter.all false
set_option maxRecDepth 100000
set_option maxHeartbeats 0
namespace Yt
open PySem PySem.Spec PyProof.Rows L2
theorem run (w : World) : HandSHeadRun.RunEq R (PySem.W.view R.prog [54]) hkY obT 10000 looseY w := by
  intro os
  kernel_rfl
end Yt

set_option Elab.async false
set_option linter.all false
set_option maxRecDepth 100000
set_option maxHeartbeats 0
namespace Yt
open PySem PySem.Spec PyProof.Rows L2
/-! ### what the head's words say -/
theorem fact_mem {fa : List He.Fa} {fn : List He.DefD} {K : PySem.W.Frag} (c : He.SaysD fa fn K) {f : He.Fa} (h : f ∈ fa) : He.Fa.ok K f = true := by
  obtain ⟨i, e⟩ := List.mem_iff_getElem?.mp h
  exact c.fact i e
theorem def_mem {fa : List He.Fa} {fn : List He.DefD} {K : PySem.W.Frag} (c : He.SaysD fa fn K) {d : He.DefD} (h : d ∈ fn) : ∃ fd, FunD K d.name d.qual d.params d.body d.scope (He.DefD.dvs K d) (He.DefD.kws K d) (He.fAd K d.at_) fd := by
  obtain ⟨i, e⟩ := List.mem_iff_getElem?.mp h
  exact c.def_ i e
section
variable {K : PySem.W.Frag} {h : Heap} {mg : Str → Option Value}
theorem def_law (c : He.SaysD faY fnY K) {p : Str × Nat} (m : p ∈ defNames) : ∃ fd, FnP K p.1 (top p.2) (He.ga K p.1) fd :=
  def_mem c (d := dF p) (List.mem_append_left _ (List.mem_map_of_mem m))
theorem def_meth (c : He.SaysD faY fnY K) (i : Nat) {p : Str × Stmt} (m : methNames[i]? = some p) : ∃ fd, MethP K p.1 p.2 (He.ma K (He.ga K "Table") p.1) fd :=
  def_mem c (d := dM p) (List.mem_append_right _ (List.mem_map_of_mem (List.mem_of_getElem? m)))
theorem glo_def (X : K.In h) (G : h.Ns mainGlobals mg) (c : He.SaysD faY fnY K) {p : Str × Nat} (m : p ∈ defNames) : mg p.1 = some (.ref (He.ga K p.1)) :=
  He.glo_ok X G (fact_mem c (f := .glo p.1) (List.mem_append_left _ (List.mem_map_of_mem (f := fun p : Str × Nat => He.Fa.glo p.1) m)))
theorem free_y (X : K.In h) (G : h.Ns mainGlobals mg) (c : He.SaysD faY fnY K) {x : Str} (m : x ∈ freeNames) : mg x = none :=
  He.free_ok X G (fact_mem c (f := .free x) (List.mem_append_right _ (List.mem_append_left _ (List.mem_map_of_mem (f := fun x => He.Fa.free x) m))))
theorem tbl_y (c : He.SaysD faY fnY K) {f : He.Fa} (i : Nat) (m : tblFacts[i]? = some f) : He.Fa.ok K f = true := fact_mem c (List.mem_append_right _ (List.mem_append_right _ (List.mem_of_getElem? m)))
theorem tc_y (X : K.In h) (G : h.Ns mainGlobals mg) (c : He.SaysD faY fnY K) (hm : moreB K = true) : TC K mg (He.ga K "Table") := by
  unfold moreB at hm
  simp only [Bool.and_eq_true, decide_eq_true_eq] at hm
  obtain ⟨h1, h2, h3, h4, h5⟩ := hm
  exact ⟨He.cls_ok (tbl_y c 2 rfl), He.noat_ok (tbl_y c 3 rfl), He.noat_ok (tbl_y c 4 rfl), He.noat_ok (tbl_y c 5 rfl), He.glo_ok X G (tbl_y c 1 rfl), h1, He.eqO_ok h2, He.eqO_ok h3, h4, h5⟩
end
theorem facts {P : Program} {w : World} {K : PySem.W.Frag} {h : Heap} {mg : Str → Option Value} {f : Addr} (X : K.In h) (G : h.Ns mainGlobals mg) (hfa : mg ("law" : Str) = some (.ref f)) (c : He.SaysD faY fnY K) (hm : moreB K = true) :
    ∃ fd : FuncData, (∀ (s : Shared) (v : Value), BindsTo s fd ⟨[v], []⟩ [("_law_script", v)]) ∧ ∀ base : Heap, K.In base → base.Ns mainGlobals mg → FnOk P w K mg base CX0 9 f fd ["_law_script"] (spLaw K) := by
  have fr : ∀ {x : Str}, x ∈ freeNames → mg x = none := fun m => free_y X G c m
  have gd : ∀ {p : Str × Nat}, p ∈ defNames → mg p.1 = some (.ref (He.ga K p.1)) := fun m => glo_def X G c m
  have N1 : Nm mg := ⟨fr (by decide), fr (by decide), fr (by decide), fr (by decide), fr (by decide), fr (by decide)⟩
  have N6 : Nm6 mg := ⟨fr (by decide), fr (by decide), fr (by decide), fr (by decide), fr (by decide), fr (by decide), fr (by decide)⟩
  have N7 : Nm7 mg := ⟨fr (by decide)⟩
  have hso : mg "sorted" = none := fr (by decide)
  have TT := tc_y X G c hm
  obtain ⟨tW, gW⟩ := He.int_ok X G (x := "GREATEST_WIDTH") (i := 4) (tbl_y c 0 rfl)
  obtain ⟨d_m0, F_m0⟩ := def_meth c 0 rfl
  obtain ⟨d_m1, F_m1⟩ := def_meth c 1 rfl
  obtain ⟨d_m2, F_m2⟩ := def_meth c 2 rfl
  obtain ⟨d_m3, F_m3⟩ := def_meth c 3 rfl
  obtain ⟨d_m4, F_m4⟩ := def_meth c 4 rfl
  obtain ⟨d_is_count, F_is_count⟩ := def_law c (p := ("is_count", 9)) (by decide)
  obtain ⟨d_is_word, F_is_word⟩ := def_law c (p := ("is_word", 10)) (by decide)
  obtain ⟨d_are_marks, F_are_marks⟩ := def_law c (p := ("are_marks", 11)) (by decide)
  obtain ⟨d_check_marks, F_check_marks⟩ := def_law c (p := ("check_marks", 12)) (by decide)
  obtain ⟨d_is_row, F_is_row⟩ := def_law c (p := ("is_row", 16)) (by decide)
  obtain ⟨d_check_width, F_check_width⟩ := def_law c (p := ("check_width", 17)) (by decide)
  obtain ⟨d_check_table, F_check_table⟩ := def_law c (p := ("check_table", 18)) (by decide)
  obtain ⟨d_check_pair_table, F_check_pair_table⟩ := def_law c (p := ("check_pair_table", 19)) (by decide)
  obtain ⟨d_check_same_marks, F_check_same_marks⟩ := def_law c (p := ("check_same_marks", 20)) (by decide)
  obtain ⟨d_check_same_kind, F_check_same_kind⟩ := def_law c (p := ("check_same_kind", 21)) (by decide)
  obtain ⟨d_twos_of, F_twos_of⟩ := def_law c (p := ("twos_of", 22)) (by decide)
  obtain ⟨d_all_rows, F_all_rows⟩ := def_law c (p := ("all_rows", 23)) (by decide)
  obtain ⟨d_full, F_full⟩ := def_law c (p := ("full", 24)) (by decide)
  obtain ⟨d_like, F_like⟩ := def_law c (p := ("like", 25)) (by decide)
  obtain ⟨d_cut, F_cut⟩ := def_law c (p := ("cut", 26)) (by decide)
  obtain ⟨d_lies_in, F_lies_in⟩ := def_law c (p := ("lies_in", 27)) (by decide)
  obtain ⟨d_chosen, F_chosen⟩ := def_law c (p := ("chosen", 28)) (by decide)
  obtain ⟨d__are_spots, F__are_spots⟩ := def_law c (p := ("_are_spots", 29)) (by decide)
  obtain ⟨d_pairs_of, F_pairs_of⟩ := def_law c (p := ("pairs_of", 30)) (by decide)
  obtain ⟨d_turned, F_turned⟩ := def_law c (p := ("turned", 31)) (by decide)
  obtain ⟨d_chained, F_chained⟩ := def_law c (p := ("chained", 32)) (by decide)
  obtain ⟨d__law_purse, F__law_purse⟩ := def_law c (p := ("_law_purse", 34)) (by decide)
  obtain ⟨d__law_mixed, F__law_mixed⟩ := def_law c (p := ("_law_mixed", 35)) (by decide)
  obtain ⟨d__law_draw, F__law_draw⟩ := def_law c (p := ("_law_draw", 36)) (by decide)
  obtain ⟨d__law_purses, F__law_purses⟩ := def_law c (p := ("_law_purses", 37)) (by decide)
  obtain ⟨d__law_one_of, F__law_one_of⟩ := def_law c (p := ("_law_one_of", 38)) (by decide)
  obtain ⟨d__law_shuffled, F__law_shuffled⟩ := def_law c (p := ("_law_shuffled", 39)) (by decide)
  obtain ⟨d__law_exact, F__law_exact⟩ := def_law c (p := ("_law_exact", 40)) (by decide)
  obtain ⟨d__law_word, F__law_word⟩ := def_law c (p := ("_law_word", 41)) (by decide)
  obtain ⟨d__law_words, F__law_words⟩ := def_law c (p := ("_law_words", 42)) (by decide)
  obtain ⟨d__law_marks, F__law_marks⟩ := def_law c (p := ("_law_marks", 43)) (by decide)
  obtain ⟨d__law_row, F__law_row⟩ := def_law c (p := ("_law_row", 44)) (by decide)
  obtain ⟨d__law_drawn_rows, F__law_drawn_rows⟩ := def_law c (p := ("_law_drawn_rows", 45)) (by decide)
  obtain ⟨d__law_every, F__law_every⟩ := def_law c (p := ("_law_every", 46)) (by decide)
  obtain ⟨d__law_told_table, F__law_told_table⟩ := def_law c (p := ("_law_told_table", 47)) (by decide)
  obtain ⟨d__law_is_table, F__law_is_table⟩ := def_law c (p := ("_law_is_table", 48)) (by decide)
  obtain ⟨d__law_twos_of, F__law_twos_of⟩ := def_law c (p := ("_law_twos_of", 49)) (by decide)
  obtain ⟨d__law_pair_rows, F__law_pair_rows⟩ := def_law c (p := ("_law_pair_rows", 50)) (by decide)
  obtain ⟨d__law_chain_rows, F__law_chain_rows⟩ := def_law c (p := ("_law_chain_rows", 51)) (by decide)
  obtain ⟨d__law_pair_of_tables, F__law_pair_of_tables⟩ := def_law c (p := ("_law_pair_of_tables", 52)) (by decide)
  obtain ⟨d__law_chosen_right, F__law_chosen_right⟩ := def_law c (p := ("_law_chosen_right", 53)) (by decide)
  obtain ⟨d_law, F_law⟩ := def_law c (p := ("law", 54)) (by decide)
  have e := hfa.symm.trans (gd (p := ("law", 54)) (by decide))
  cases e
  have b := FunD.bindsA (ps := ["_law_script"]) F_law fun _ _ _ _ _ _ us hl => match us, hl with | [_], _ => rfl
  refine ⟨d_law, fun s v => b s [v] rfl, fun base _ _ => ?_⟩
  have b_is_count : Binds K d_is_count ["value"] [] := F_is_count.bindsN fun _ _ _ _ _ _ us hl => match us, hl with | [_], _ => rfl
  have b_is_word : Binds K d_is_word ["value"] [] := F_is_word.bindsN fun _ _ _ _ _ _ us hl => match us, hl with | [_], _ => rfl
  have b_are_marks : Binds K d_are_marks ["value"] [] := F_are_marks.bindsN fun _ _ _ _ _ _ us hl => match us, hl with | [_], _ => rfl
  have b_check_marks : Binds K d_check_marks ["marks"] [] := F_check_marks.bindsN fun _ _ _ _ _ _ us hl => match us, hl with | [_], _ => rfl
  have b_is_row : Binds K d_is_row ["marks", "width", "value"] [] := F_is_row.bindsN fun _ _ _ _ _ _ us hl => match us, hl with | [_, _, _], _ => rfl
  have b_check_width : Binds K d_check_width ["width"] [] := F_check_width.bindsN fun _ _ _ _ _ _ us hl => match us, hl with | [_], _ => rfl
  have b_check_table : Binds K d_check_table ["table"] [] := F_check_table.bindsN fun _ _ _ _ _ _ us hl => match us, hl with | [_], _ => rfl
  have b_check_pair_table : Binds K d_check_pair_table ["table"] [] := F_check_pair_table.bindsN fun _ _ _ _ _ _ us hl => match us, hl with | [_], _ => rfl
  have b_check_same_marks : Binds K d_check_same_marks ["one", "other"] [] := F_check_same_marks.bindsN fun _ _ _ _ _ _ us hl => match us, hl with | [_, _], _ => rfl
  have b_check_same_kind : Binds K d_check_same_kind ["one", "other"] [] := F_check_same_kind.bindsN fun _ _ _ _ _ _ us hl => match us, hl with | [_, _], _ => rfl
  have b_twos_of : Binds K d_twos_of ["width"] [] := F_twos_of.bindsN fun _ _ _ _ _ _ us hl => match us, hl with | [_], _ => rfl
  have b_all_rows : Binds K d_all_rows ["marks", "width"] [] := F_all_rows.bindsN fun _ _ _ _ _ _ us hl => match us, hl with | [_, _], _ => rfl
  have b_full : Binds K d_full ["marks", "width"] [] := F_full.bindsN fun _ _ _ _ _ _ us hl => match us, hl with | [_, _], _ => rfl
  have b_like : Binds K d_like ["marks"] [] := F_like.bindsN fun _ _ _ _ _ _ us hl => match us, hl with | [_], _ => rfl
  have b_cut : Binds K d_cut ["one", "other"] [] := F_cut.bindsN fun _ _ _ _ _ _ us hl => match us, hl with | [_, _], _ => rfl
  have b_lies_in : Binds K d_lies_in ["one", "other"] [] := F_lies_in.bindsN fun _ _ _ _ _ _ us hl => match us, hl with | [_, _], _ => rfl
  have b_chosen : Binds K d_chosen ["table", "spots"] [] := F_chosen.bindsN fun _ _ _ _ _ _ us hl => match us, hl with | [_, _], _ => rfl
  have b__are_spots : Binds K d__are_spots ["width", "value"] [] := F__are_spots.bindsN fun _ _ _ _ _ _ us hl => match us, hl with | [_, _], _ => rfl
  have b_pairs_of : Binds K d_pairs_of ["table"] [] := F_pairs_of.bindsN fun _ _ _ _ _ _ us hl => match us, hl with | [_], _ => rfl
  have b_turned : Binds K d_turned ["table"] [] := F_turned.bindsN fun _ _ _ _ _ _ us hl => match us, hl with | [_], _ => rfl
  have b_chained : Binds K d_chained ["one", "other"] [] := F_chained.bindsN fun _ _ _ _ _ _ us hl => match us, hl with | [_, _], _ => rfl
  have b__law_purse : Binds K d__law_purse ["_law_script", "_law_at"] [] := F__law_purse.bindsN fun _ _ _ _ _ _ us hl => match us, hl with | [_, _], _ => rfl
  have b__law_mixed : Binds K d__law_mixed ["_law_seed", "_law_spin", "_law_at"] [] := F__law_mixed.bindsN fun _ _ _ _ _ _ us hl => match us, hl with | [_, _, _], _ => rfl
  have b__law_draw : Binds K d__law_draw ["_law_purse_here", "_law_many"] [] := F__law_draw.bindsN fun _ _ _ _ _ _ us hl => match us, hl with | [_, _], _ => rfl
  have b__law_purses : Binds K d__law_purses ["_law_script", "_law_few"] [] := F__law_purses.bindsN fun _ _ _ _ _ _ us hl => match us, hl with | [_, _], _ => rfl
  have b__law_one_of : Binds K d__law_one_of ["_law_purse_here", "_law_some"] [] := F__law_one_of.bindsN fun _ _ _ _ _ _ us hl => match us, hl with | [_, _], _ => rfl
  have b__law_shuffled : Binds K d__law_shuffled ["_law_purse_here", "_law_some"] [] := F__law_shuffled.bindsN fun _ _ _ _ _ _ us hl => match us, hl with | [_, _], _ => rfl
  have b__law_exact : Binds K d__law_exact ["_law_mine", "_law_theirs"] [] := F__law_exact.bindsN fun _ _ _ _ _ _ us hl => match us, hl with | [_, _], _ => rfl
  have b__law_word : Binds K d__law_word ["_law_purse_here"] [] := F__law_word.bindsN fun _ _ _ _ _ _ us hl => match us, hl with | [_], _ => rfl
  have b__law_words : Binds K d__law_words ["_law_purse_here", "_law_many"] [] := F__law_words.bindsN fun _ _ _ _ _ _ us hl => match us, hl with | [_, _], _ => rfl
  have b__law_marks : Binds K d__law_marks ["_law_purse_here", "_law_many"] [] := F__law_marks.bindsN fun _ _ _ _ _ _ us hl => match us, hl with | [_, _], _ => rfl
  have b__law_row : Binds K d__law_row ["_law_purse_here", "_law_marks_here", "_law_width"] [] := F__law_row.bindsN fun _ _ _ _ _ _ us hl => match us, hl with | [_, _, _], _ => rfl
  have b__law_drawn_rows : Binds K d__law_drawn_rows ["_law_purse_here", "_law_marks_here", "_law_width", "_law_most"] [] := F__law_drawn_rows.bindsN fun _ _ _ _ _ _ us hl => match us, hl with | [_, _, _, _], _ => rfl
  have b__law_every : Binds K d__law_every ["_law_marks_here", "_law_width"] [] := F__law_every.bindsN fun _ _ _ _ _ _ us hl => match us, hl with | [_, _], _ => rfl
  have b__law_told_table : Binds K d__law_told_table ["_law_table"] [] := F__law_told_table.bindsN fun _ _ _ _ _ _ us hl => match us, hl with | [_], _ => rfl
  have b__law_is_table : Binds K d__law_is_table ["_law_table", "_law_marks_here", "_law_width", "_law_rows"] [] := F__law_is_table.bindsN fun _ _ _ _ _ _ us hl => match us, hl with | [_, _, _, _], _ => rfl
  have b__law_twos_of : Binds K d__law_twos_of ["_law_width"] [] := F__law_twos_of.bindsN fun _ _ _ _ _ _ us hl => match us, hl with | [_], _ => rfl
  have b__law_pair_rows : Binds K d__law_pair_rows ["_law_rows", "_law_one", "_law_other"] [] := F__law_pair_rows.bindsN fun _ _ _ _ _ _ us hl => match us, hl with | [_, _, _], _ => rfl
  have b__law_chain_rows : Binds K d__law_chain_rows ["_law_one", "_law_other"] [] := F__law_chain_rows.bindsN fun _ _ _ _ _ _ us hl => match us, hl with | [_, _], _ => rfl
  have b__law_pair_of_tables : Binds K d__law_pair_of_tables ["_law_purse_here", "_law_marks_here"] [] := F__law_pair_of_tables.bindsN fun _ _ _ _ _ _ us hl => match us, hl with | [_, _], _ => rfl
  have b__law_chosen_right : Binds K d__law_chosen_right ["_law_purse_here", "_law_marks_here", "_law_width", "_law_rows"] [] := F__law_chosen_right.bindsN fun _ _ _ _ _ _ us hl => match us, hl with | [_, _, _, _], _ => rfl
  have G__law_draw := ok_draw (P := P) (w := w) (base := base) (mg := mg) F__law_draw N1 F__law_mixed (gd (p := ("_law_mixed", 35)) (by decide))
  have G__law_purse := ok_purse (P := P) (w := w) (base := base) (mg := mg) F__law_purse N1
  have G__law_purses := ok_purses (P := P) (w := w) (base := base) (mg := mg) F__law_purses N1 G__law_purse b__law_purse F__law_purse.kp (gd (p := ("_law_purse", 34)) (by decide))
  have G__law_one_of := ok_one (P := P) (w := w) (base := base) (mg := mg) F__law_one_of N1 G__law_draw b__law_draw F__law_draw.kp (gd (p := ("_law_draw", 36)) (by decide))
  have G__law_exact := exact_all (P := P) (w := w) (base := base) (mg := mg) F__law_exact N1 N6 b__law_exact F__law_exact.kp (gd (p := ("_law_exact", 40)) (by decide)) 4
  have G__law_word := ok_word (P := P) (w := w) (base := base) (mg := mg) F__law_word N1 G__law_draw b__law_draw F__law_draw.kp (gd (p := ("_law_draw", 36)) (by decide))
  have G__law_words := ok_words (P := P) (w := w) (base := base) (mg := mg) F__law_words N1 N6 G__law_draw b__law_draw F__law_draw.kp (gd (p := ("_law_draw", 36)) (by decide)) G__law_word b__law_word F__law_word.kp (gd (p := ("_law_word", 41)) (by decide))
  have G__law_marks := ok_marks (P := P) (w := w) (base := base) (mg := mg) F__law_marks hso G__law_words b__law_words F__law_words.kp (gd (p := ("_law_words", 42)) (by decide))
  have G_is_count := ok_iscount (P := P) (w := w) (base := base) (mg := mg) F_is_count N1 N6
  have G_is_word := ok_isword (P := P) (w := w) (base := base) (mg := mg) F_is_word N1 N6 N7
  have G_are_marks := ok_aremarks (P := P) (w := w) (base := base) (mg := mg) F_are_marks N1 N6 G_is_word b_is_word F_is_word.kp (gd (p := ("is_word", 10)) (by decide))
  have G_check_marks := ok_checkmarks (P := P) (w := w) (base := base) (mg := mg) F_check_marks G_are_marks b_are_marks F_are_marks.kp (gd (p := ("are_marks", 11)) (by decide))
  have G_is_row := ok_isrow (P := P) (w := w) (base := base) (mg := mg) F_is_row N1 N6
  have G_check_width := ok_checkwidth (P := P) (w := w) (base := base) (mg := mg) F_check_width gW G_is_count b_is_count F_is_count.kp (gd (p := ("is_count", 9)) (by decide))
  have G_init := ok_tinit (P := P) (w := w) (base := base) (mg := mg) F_m0 TT N1 N6 hso (fr (by decide)) G_check_marks b_check_marks F_check_marks.kp (gd (p := ("check_marks", 12)) (by decide)) G_check_width b_check_width F_check_width.kp (gd (p := ("check_width", 17)) (by decide)) G_is_row b_is_row F_is_row.kp (gd (p := ("is_row", 16)) (by decide))
  have M : TM P w K mg base (He.ga K "Table") := ⟨TT, ⟨_, _, G_init, F_m0.bindsN fun _ _ _ _ _ _ us hl => match us, hl with | [_, _, _, _], _ => rfl, He.mkr_ok (tbl_y c 10 rfl)⟩,
    ⟨_, _, ok_tmarks F_m1 TT N6, F_m1.bindsN fun _ _ _ _ _ _ us hl => match us, hl with | [_], _ => rfl, He.meth_ok (tbl_y c 6 rfl)⟩,
    ⟨_, _, ok_twidth F_m2 TT, F_m2.bindsN fun _ _ _ _ _ _ us hl => match us, hl with | [_], _ => rfl, He.meth_ok (tbl_y c 7 rfl)⟩,
    ⟨_, _, ok_trows F_m3 TT N6, F_m3.bindsN fun _ _ _ _ _ _ us hl => match us, hl with | [_], _ => rfl, He.meth_ok (tbl_y c 8 rfl)⟩,
    ⟨_, _, ok_teq F_m4 TT N6, F_m4.bindsN fun _ _ _ _ _ _ us hl => match us, hl with | [_, _], _ => rfl, (He.meth_ok (tbl_y c 9 rfl)).at_, (He.meth_ok (tbl_y c 9 rfl)).fn⟩⟩
  have G_check_table := ok_checktable (P := P) (w := w) (base := base) (mg := mg) F_check_table TT N6
  have G_check_pair_table := ok_checkpair (P := P) (w := w) (base := base) (mg := mg) F_check_pair_table M G_check_table b_check_table F_check_table.kp (gd (p := ("check_table", 18)) (by decide))
  have G_check_same_marks := ok_checksame (P := P) (w := w) (base := base) (mg := mg) F_check_same_marks M
  have G_check_same_kind := ok_checkkind (P := P) (w := w) (base := base) (mg := mg) F_check_same_kind M G_check_table b_check_table F_check_table.kp (gd (p := ("check_table", 18)) (by decide)) G_check_same_marks b_check_same_marks F_check_same_marks.kp (gd (p := ("check_same_marks", 20)) (by decide))
  have G_twos_of := ok_twos (P := P) (w := w) (base := base) (mg := mg) F_twos_of N1
  have G_all_rows := ok_allrows (P := P) (w := w) (base := base) (mg := mg) F_all_rows N1
  have G_full := ok_full (P := P) (w := w) (base := base) (mg := mg) F_full M G_check_marks b_check_marks F_check_marks.kp (gd (p := ("check_marks", 12)) (by decide)) G_check_width b_check_width F_check_width.kp (gd (p := ("check_width", 17)) (by decide)) G_all_rows b_all_rows F_all_rows.kp (gd (p := ("all_rows", 23)) (by decide))
  have G_like := ok_like (P := P) (w := w) (base := base) (mg := mg) F_like M G_check_marks b_check_marks F_check_marks.kp (gd (p := ("check_marks", 12)) (by decide))
  have G_cut := ok_cut (P := P) (w := w) (base := base) (mg := mg) F_cut M G_check_same_kind b_check_same_kind F_check_same_kind.kp (gd (p := ("check_same_kind", 21)) (by decide))
  have G_lies_in := ok_lies (P := P) (w := w) (base := base) (mg := mg) F_lies_in M N6 G_check_same_kind b_check_same_kind F_check_same_kind.kp (gd (p := ("check_same_kind", 21)) (by decide))
  have G__are_spots := ok_arespots (P := P) (w := w) (base := base) (mg := mg) F__are_spots N1 N6 gW G_is_count b_is_count F_is_count.kp (gd (p := ("is_count", 9)) (by decide))
  have G_chosen := ok_chosen (P := P) (w := w) (base := base) (mg := mg) F_chosen M N1 N6 G_check_table b_check_table F_check_table.kp (gd (p := ("check_table", 18)) (by decide)) G__are_spots b__are_spots F__are_spots.kp (gd (p := ("_are_spots", 29)) (by decide))
  have G_pairs_of := ok_pairsof (P := P) (w := w) (base := base) (mg := mg) F_pairs_of M hso G_check_table b_check_table F_check_table.kp (gd (p := ("check_table", 18)) (by decide)) G_twos_of b_twos_of F_twos_of.kp (gd (p := ("twos_of", 22)) (by decide))
  have G_turned := ok_turned (P := P) (w := w) (base := base) (mg := mg) F_turned M G_check_pair_table b_check_pair_table F_check_pair_table.kp (gd (p := ("check_pair_table", 19)) (by decide))
  have G_chained := ok_chained (P := P) (w := w) (base := base) (mg := mg) F_chained M G_check_pair_table b_check_pair_table F_check_pair_table.kp (gd (p := ("check_pair_table", 19)) (by decide)) G_check_same_marks b_check_same_marks F_check_same_marks.kp (gd (p := ("check_same_marks", 20)) (by decide))
  have G__law_shuffled := ok_shuf (P := P) (w := w) (base := base) (mg := mg) F__law_shuffled N1 G__law_draw b__law_draw F__law_draw.kp (gd (p := ("_law_draw", 36)) (by decide))
  have G__law_row := ok_lrow (P := P) (w := w) (base := base) (mg := mg) F__law_row N1 N6 G__law_one_of b__law_one_of F__law_one_of.kp (gd (p := ("_law_one_of", 38)) (by decide))
  have G__law_drawn_rows := ok_ldrawn (P := P) (w := w) (base := base) (mg := mg) F__law_drawn_rows N1 N6 hso G__law_row b__law_row F__law_row.kp (gd (p := ("_law_row", 44)) (by decide)) G__law_draw b__law_draw F__law_draw.kp (gd (p := ("_law_draw", 36)) (by decide))
  have G__law_every := ok_every (P := P) (w := w) (base := base) (mg := mg) F__law_every N1
  have G__law_told_table := ok_ltold (P := P) (w := w) (base := base) (mg := mg) F__law_told_table M
  have G__law_is_table := ok_lis (P := P) (w := w) (base := base) (mg := mg) F__law_is_table M N6 hso G__law_told_table b__law_told_table F__law_told_table.kp (gd (p := ("_law_told_table", 47)) (by decide)) G__law_exact b__law_exact F__law_exact.kp (gd (p := ("_law_exact", 40)) (by decide))
  have G_isD := ok_lisD (P := P) (w := w) (base := base) (mg := mg) F__law_is_table M N6 hso G__law_told_table b__law_told_table F__law_told_table.kp (gd (p := ("_law_told_table", 47)) (by decide)) G__law_exact b__law_exact F__law_exact.kp (gd (p := ("_law_exact", 40)) (by decide))
  have G__law_twos_of := ok_ltwos (P := P) (w := w) (base := base) (mg := mg) F__law_twos_of N1
  have G__law_pair_rows := ok_lpairrows (P := P) (w := w) (base := base) (mg := mg) F__law_pair_rows N6 hso
  have G__law_chain_rows := ok_lchain (P := P) (w := w) (base := base) (mg := mg) F__law_chain_rows hso
  have G__law_pair_of_tables := ok_lpairt (P := P) (w := w) (base := base) (mg := mg) F__law_pair_of_tables N1 G__law_drawn_rows b__law_drawn_rows F__law_drawn_rows.kp (gd (p := ("_law_drawn_rows", 45)) (by decide))
  have CH : CalsH P w K mg base (He.ga K "Table") := ⟨M, ⟨⟨_, _, G__law_draw, b__law_draw, F__law_draw.kp, gd (p := ("_law_draw", 36)) (by decide)⟩⟩, ⟨⟨_, _, G__law_shuffled, b__law_shuffled, F__law_shuffled.kp, gd (p := ("_law_shuffled", 39)) (by decide)⟩⟩, ⟨⟨_, _, G_chosen, b_chosen, F_chosen.kp, gd (p := ("chosen", 28)) (by decide)⟩⟩, ⟨⟨_, _, G__law_is_table, b__law_is_table, F__law_is_table.kp, gd (p := ("_law_is_table", 48)) (by decide)⟩⟩, ⟨⟨_, _, G_isD, b__law_is_table, F__law_is_table.kp, gd (p := ("_law_is_table", 48)) (by decide)⟩⟩, ⟨⟨_, _, G__law_twos_of, b__law_twos_of, F__law_twos_of.kp, gd (p := ("_law_twos_of", 49)) (by decide)⟩⟩, ⟨⟨_, _, G__law_pair_rows, b__law_pair_rows, F__law_pair_rows.kp, gd (p := ("_law_pair_rows", 50)) (by decide)⟩⟩, ⟨⟨_, _, G_pairs_of, b_pairs_of, F_pairs_of.kp, gd (p := ("pairs_of", 30)) (by decide)⟩⟩, ⟨⟨_, _, G__law_exact, b__law_exact, F__law_exact.kp, gd (p := ("_law_exact", 40)) (by decide)⟩⟩⟩
  have G__law_chosen_right := ok_lchosen (P := P) (w := w) (base := base) (mg := mg) F__law_chosen_right CH N1 N6
  have C : CalsL P w K mg base (He.ga K "Table") := ⟨M, ⟨_, _, G__law_purses, b__law_purses, F__law_purses.kp, gd (p := ("_law_purses", 37)) (by decide)⟩,
    ⟨_, _, G__law_draw, b__law_draw, F__law_draw.kp, gd (p := ("_law_draw", 36)) (by decide)⟩,
    ⟨_, _, G__law_marks, b__law_marks, F__law_marks.kp, gd (p := ("_law_marks", 43)) (by decide)⟩,
    ⟨_, _, G__law_drawn_rows, b__law_drawn_rows, F__law_drawn_rows.kp, gd (p := ("_law_drawn_rows", 45)) (by decide)⟩,
    ⟨_, _, G__law_every, b__law_every, F__law_every.kp, gd (p := ("_law_every", 46)) (by decide)⟩,
    ⟨_, _, G__law_is_table, b__law_is_table, F__law_is_table.kp, gd (p := ("_law_is_table", 48)) (by decide)⟩,
    ⟨_, _, G__law_exact, b__law_exact, F__law_exact.kp, gd (p := ("_law_exact", 40)) (by decide)⟩,
    ⟨_, _, G__law_chain_rows, b__law_chain_rows, F__law_chain_rows.kp, gd (p := ("_law_chain_rows", 51)) (by decide)⟩,
    ⟨_, _, G__law_pair_of_tables, b__law_pair_of_tables, F__law_pair_of_tables.kp, gd (p := ("_law_pair_of_tables", 52)) (by decide)⟩,
    ⟨_, _, G__law_chosen_right, b__law_chosen_right, F__law_chosen_right.kp, gd (p := ("_law_chosen_right", 53)) (by decide)⟩,
    ⟨_, _, G_full, b_full, F_full.kp, gd (p := ("full", 24)) (by decide)⟩,
    ⟨_, _, G_like, b_like, F_like.kp, gd (p := ("like", 25)) (by decide)⟩,
    ⟨_, _, G_cut, b_cut, F_cut.kp, gd (p := ("cut", 26)) (by decide)⟩,
    ⟨_, _, G_lies_in, b_lies_in, F_lies_in.kp, gd (p := ("lies_in", 27)) (by decide)⟩,
    ⟨_, _, G_turned, b_turned, F_turned.kp, gd (p := ("turned", 31)) (by decide)⟩,
    ⟨_, _, G_chained, b_chained, F_chained.kp, gd (p := ("chained", 32)) (by decide)⟩⟩
  exact ok_law F_law C N1 N6
end Yt

set_option Elab.async false
set_option linter.all false
set_option maxRecDepth 100000
set_option maxHeartbeats 0
open PySem PySem.W PySem.Calls PyProof.Rows
theorem PySem.Challenge.cw_pairtells_k03_whole_tables_cut_chosen_tu_holds : PySem.Challenge.rw_pairtells_k03_whole_tables_cut_chosen_tu.Holds := by
  w_on; o_law
  refine HandSHeadRun.head_any (r := OpenLaw.row PySem.Challenge.rw_pairtells_k03_whole_tables_cut_chosen_tu) (q := view (OpenLaw.row PySem.Challenge.rw_pairtells_k03_whole_tables_cut_chosen_tu).prog [54]) (H := Yt.hkY) (ob := Yt.obT) (M := 10000) (loose := Yt.looseY) (d := HandSHeadRun.topDef (OpenLaw.row PySem.Challenge.rw_pairtells_k03_whole_tables_cut_chosen_tu).prog 54) (kwd := []) Yt.obT_eq
    (by kernel_rfl) (fun s => by kernel_rfl) Yt.run (by kernel_rfl) (by kernel_rfl) (by kernel_rfl) (by rfl) (by first | assumption | decide +kernel) (by decide +kernel) ⟨rfl, rfl, rfl, rfl, rfl, by decide +kernel⟩ ?hw ?hc
  case hw => w_witness2
  case hc =>
    refine L2.walk_ofE (l := PySem.Challenge.rw_pairtells_k03_whole_tables_cut_chosen_tu) (n := 63) (k := 9) (x := "_law_script") (CX := L2.CX0) rfl (by decide) (by kernel_rfl) ⟨rfl, by decide, by decide⟩ ?F (fun _ _ _ _ z => z)
    intro w mg fa h Y G hmg0
    obtain ⟨K, KX, c, hm⟩ := Y
    have hmg : mg ("law" : PySem.Str) = some (.ref fa) := by
      have e : (HandSHeadRun.topDef (OpenLaw.row PySem.Challenge.rw_pairtells_k03_whole_tables_cut_chosen_tu).prog 54).name = ("law" : PySem.Str) := by kernel_rfl
      rw [← e]
      exact hmg0
    obtain ⟨fd, hb, hF⟩ := Yt.facts (P := (PySem.Challenge.rw_pairtells_k03_whole_tables_cut_chosen_tu).prog) (w := w) KX G hmg c hm
    exact ⟨K, fd, Yt.spLaw K, KX, hb, fun H a ns hl _ hS => ⟨a, ns, rfl, hS, hl, fun _ => rfl⟩, hF⟩
