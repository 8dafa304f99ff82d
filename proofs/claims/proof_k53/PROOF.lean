import PyProof.Rows.All
import Wide.All
import OpenK.AllK
import Wide.FinOn
import HandS.ForMost
import PyProof.ReprReads
import HandS.Lambda
import HandS.Zip
import HandS.TupAny
import HandS.TupMul
import HandS.Wide
import HandS.Gcd
import HandS.IsInst
import HandS.SortInts
import PyProof.ReprRoads
import HandS.More
import HandS.Style
import KE.KRevSl
import KE.KTupSum
import HandS.TupSets
import HandS.Iter
import HandS.CallLocal
import KE.GoesMore
import HandS.Conv
import HandS.ExcOwn
import HandS.HotCalls
import HandS.ExcInit
import HandS.ExcField
import HandS.Defaults
import HandS.RaiseMore
import PyProof.Rows.FactsB_pow
import PyProof.Rows.RuleDivmod
import PyProof.TableTree
import PyProof.FactsTree
import HandS.Rev
import KE.GoesZip
import HandS.TupLe
import HandS.WideBits
import HandS.ExcIs
import HandS.RevRange
import PyProof.SeqIndex
import HandS.Dict
import KE.KMathG
import Flt.RightSqrt
import KE.KUnpackStar
import PyProof.MakeMany
import KE.DataCmp
import HandS.SortKw
import PyProof.MinMaxWalk
import PyProof.WalkInts
import HandS.Deep
import HandS.EndTab
import PyProof.StrLawsRepr
import KE.GoesEnum
import HandS.Star
import HandS.DictComp
import KE.KEqDict
import PySem.Challenge.RW_flutterheld_k53_groups_judged
set_option Elab.async false
set_option linter.all false
set_option maxRecDepth 100000
set_option maxHeartbeats 4000000
/-! Own layer A: a def's promise where no repr is under way (guards known empty). -/
namespace Yw
open PySem PySem.Spec PyProof.Rows L2

/-- a promise kept by every call that is made while no guard stands -/
structure FnG (P : Program) (w : World) (K : PySem.W.Frag) (mg : Str → Option Value) (base : Heap)
    (k : Nat) (f : Addr) (fd : FuncData) (ps : List Str) (sp : Sp) : Prop where
  cnt : ∀ vs H Q E, sp vs H Q E → vs.length = ps.length
  go : ∀ (A : Around) (outer : List Env) (s : Shared) (H : Hp) (args : Args) (us : List Value) (vs : List V) (Q : VK),
    A.guards = some [] → Room k A → Env0 P w K mg base A outer s H → BindsTo s fd args (ps.zip us) →
    Vals vs us → sp vs H Q E0 → codeAny (model P w) A (.call (.ref f) args) (CR CX0 outer P w H s Q E0) s

section
variable {P : Program} {w : World} {K : PySem.W.Frag} {mg : Str → Option Value} {base : Heap}

theorem deep_g {A : Around} {e : Env} (h : A.guards = some []) : (A.deeper e).guards = some [] := h

/-- a def by its body -/
theorem fnG {x qual : Str} {st : Stmt} {f : Addr} {fd : FuncData} {N ps : List Str} {k : Nat} {sp : Sp}
    (F : Fun K x qual st f fd) (S : FnScope N ps (defScope st)) (cnt : ∀ vs H Q E, sp vs H Q E → vs.length = ps.length)
    (body : ∀ (cdv : Value) (A : Around) (outer : List Env) (s : Shared) (H : Hp) (E : XK),
      (A.deeper (envOfC qual (defScope st) s.heap.objs.size f cdv)).guards = some [] →
      Room k (A.deeper (envOfC qual (defScope st) s.heap.objs.size f cdv)) →
      ∃ t, PSs (cxOf CX0 P w K mg base N qual (defScope st) f cdv A outer s H E).nox (defBody st) t ∧
        ∀ (vs : List V) (Q : VK), sp vs H Q E → t { nx := fun _ H' => Q .non H', rt := Q } (start N vs) H) :
    FnG P w K mg base (k + 1) f fd ps sp := by
  refine ⟨cnt, fun A outer s H args us vs Q gA hr e0 hb rv hsp => ?_⟩
  obtain ⟨oc, od, kV, doc, pm, an, cdv, ct, osl, hfd, lk, hcd⟩ := F.ex
  subst hfd
  have KX : K.In s.heap := e0.mod.kin.keeps fun b o e => (e0.bs b o e).1
  have lim : s.heap.NoLimit := e0.mod.nolimit.keeps fun b o e => (e0.bs b o e).1
  refine codeAny_call_function hr.depth (KX _ _ lk) rfl S.co S.gen rfl (PySem.W.codeRec_of KX hcd) (hb _ _ _ _ ?_)
  refine wpAny_newFunctionEnv_cells S.kind (fun y hy => ?_) fun env he s1 hx => ?_
  · obtain ⟨n, v⟩ := y
    cases S.par n (List.of_mem_zip hy).1 with
    | inl q => exact .inl q
    | inr q => exact .inr ⟨q, PySem.W.cellsFrom_some _ _ _ (.inl q)⟩
  · subst he
    refine ⟨lim.keeps hx.toInCall.keep, codeAny_func ?_⟩
    obtain ⟨t, ht, hq⟩ := body cdv A outer s H E0 (deep_g gA) (hr.deeper _)
    have I := inv_start (CX := CX0) (E := E0) S hr.hd e0 (cnt _ _ _ _ hsp) rv hx
    refine wpAny_mono (ht.nox.run [] s1 (start N vs) H _ I (hq vs Q hsp)) (fun fl s' z => ?_) fun _ _ z => z
    cases fl with
    | ret u =>
      obtain ⟨v, σ2, H2, J, r2, q⟩ := z
      exact ⟨v, H2, J.os, J.bare, J.base, J.hok, r2, q⟩
    | next =>
      obtain ⟨σ2, H2, J, q⟩ := z
      exact ⟨.non, H2, J.os, J.bare, J.base, J.hok, rfl, q⟩
    | brk => exact z.elim fun _ z => z.elim fun _ z => z.2.elim
    | cont => exact z.elim fun _ z => z.elim fun _ z => z.2.elim
end

section
variable {X : Cx} {k : Nat} {f : Addr} {fd : FuncData} {ps : List Str} {sp : Sp} {x : Str} {p pos : Pos} {e : Expr} {es : List Expr} {t : TA}
theorem goG {pins : List (Addr × Obj)} {σ : L2.St} {H : Hp} {s : Shared} {Q : VK} {us : List Value} {vs : List V}
    (F : FnG X.prog X.w X.K X.mg X.base k f fd ps sp) (g : X.A.guards = some []) (hr : Room k X.A) (hb : Binds X.K fd ps [])
    (I : Inv X pins σ H s) (r : Vals vs us) (h : sp vs H Q E0) :
    wpAny (model X.prog X.w) X.A (call (.ref f) us) (EP X pins σ Q) X.xe s := by
  have n := F.cnt _ _ _ _ h
  have hl : (us ++ []).length = ps.length := by rw [List.append_nil, ← r.length, n]
  have b := hb s us I.kIn hl
  rw [List.append_nil] at b
  refine wpAny_call (codeAny_mono (F.go X.A X.stack s H ⟨us, []⟩ us vs Q g hr I.env0 b r h) fun z s' q => ?_)
  cases z with
  | error e => exact q.elim
  | ok fl =>
    cases fl with
    | ret u => exact I.after q
    | next => exact q.elim
    | brk => exact q.elim
    | cont => exact q.elim

/-- f(e, ..) of a def of the text -/
theorem peG (F : FnG X.prog X.w X.K X.mg X.base k f fd ps sp) (g : X.A.guards = some []) (hr : Room k X.A) (hg : Gl X x)
    (hm : X.mg x = some (.ref f)) (hk : PySem.W.keepIn X.K (.ref f) = true) (hb : Binds X.K fd ps []) (ha : PA X (e :: es) t)
    (hdb : (x == ("__debug__" : Str)) = false := by decide)
    (he : starEach (e :: es) X.env = (false, eval e X.env) :: starEach es X.env := by rfl)
    (hpl : (backTo pos (starEach es X.env)).any (·.1) = false := by rfl) :
    PE X (.Call (.Name x p) (e :: es) [] pos) (fun σ H Q => t σ H fun vs H1 => sp vs H1 Q E0) := by
  refine ⟨fun pins s σ H Q I h => wpAny_Call_Name_kw (ld_glob I hg hm ?_ hdb)⟩
  refine PySem.W.callWith_K (h₀ := X.base) I.ok.mod.kin hk (thn (ha.run pos pins s σ H _ I h) ?_) he hpl
  intro us s1 ⟨vs, H1, I1, r, q⟩
  exact ⟨I1.kIn, goG F g hr hb I1 r q⟩
end

/-! ### the law's own call -/
/-- the abstract heap that holds nothing but the script (or nothing, where the top made it) -/
def oneH (a : Addr) (o : Obj) (xs : List V) : Hp := fun b => if b = a then some (.frz o (.lst xs)) else none
theorem oneH_at {a : Addr} {o : Obj} {xs : List V} : oneH a o xs a = some (.frz o (.lst xs)) := if_pos rfl
theorem oneH_no {a b : Addr} {o : Obj} {xs : List V} (h : b ≠ a) : oneH a o xs b = none := if_neg h
/-- what is tracked is the script alone, and it is no object of K -/
structure Lone (K : PySem.W.Frag) (a : Addr) (H : Hp) : Prop where
  only : ∀ b u, H b = some u → b = a ∧ K.lookup a = none ∧ ∃ o xs, u = HO.frz o (.lst xs)
theorem Lone.free {K : PySem.W.Frag} {a b : Addr} {H : Hp} (L : Lone K a H) (h : b ≠ a ∨ K.lookup a ≠ none) : H b = none := by
  cases q : H b with
  | none => rfl
  | some u =>
    obtain ⟨e, n, _⟩ := L.only b u q
    rcases h with h | h
    · exact absurd e h
    · exact absurd n h
section
variable {P : Program} {w : World} {K : PySem.W.Frag} {mg mb : Str → Option Value} {k : Nat} {fa a : Addr} {fd : FuncData} {x : Str} {sp : Sp} {s : Shared} {vs : List Value} {ns : List Int}
/-- from one abstract heap -/
theorem lawAt {H : Hp} (L : Lone K a H) (hok : HOk P w H s.heap) (KX : K.In s.heap) (hns : s.heap.Ns mainGlobals mg) (hb : s.heap.Ns builtinsNs mb)
    (hbb : ∀ x : Str, x ≠ "__name__" → mb x = bootBuiltins x) (hlim : s.heap.NoLimit) (hg : s.gens = #[])
    (ha : s.heap.get? a = some { cls := .type "list", data := .seq vs.toArray }) (hr : Room k callerA)
    (F : ∀ base : Heap, K.In base → base.Ns mainGlobals mg → FnG P w K mg base k fa fd [x] sp)
    (hbind : ∀ (s : Shared) (u : Value), BindsTo s fd ⟨[u], []⟩ [(x, u)]) (hsp : sp [.ref a] H (fun v _ => v = .bl true) E0) :
    codeAny (model P w) callerA (.call (.ref fa) ⟨[.ref a], []⟩)
      (fun r s' => r = .ok (.ret (.bool true)) ∧ OldK s.heap s'.heap ∧ s'.os = s.os ∧ AllBare s'.gens) s := by
  -- the fixed part: all but what is tracked
  have keep : ∀ {b : Addr} {o : Obj}, s.heap.get? b = some o → H b = none → (hidT s.heap H).get? b = some o := fun e n => hidT_get e n
  have dicts : ∀ {b : Addr} {m : Str → Option Value}, s.heap.Ns b m → (hidT s.heap H).Ns b m := fun {b m} ⟨o, es, ep, e, d, r⟩ => by
    refine ⟨o, es, ep, keep e ?_, d, r⟩
    by_cases hba : b = a
    · subst hba
      rw [ha] at e
      cases e
      exact nomatch (show Data.seq vs.toArray _ = Data.dict es ep from d)
    · exact L.free (.inl hba)
  have kin : K.In (hidT s.heap H) := fun b o e => keep (KX b o e) (by
    by_cases hba : b = a
    · subst hba
      exact L.free (.inr (by rw [e]; exact fun z => nomatch z))
    · exact L.free (.inl hba))
  have md : Mod K mg (hidT s.heap H) := ⟨kin, dicts hns, ⟨mb, dicts hb, hbb⟩, hlim.elim fun mc z => ⟨mc, dicts z.1, z.2⟩⟩
  have e0 : Env0 P w K mg (hidT s.heap H) callerA [] s H :=
    ⟨rfl, md, fun b o e => of_hidT e, Nat.le_of_eq (hidT_size _ _), trivial, (fun b q => absurd (show b ∈ ([] : List Addr) from q) List.not_mem_nil), hok, .of_eq hg⟩
  refine codeAny_mono ((F _ kin (dicts hns)).go callerA [] s H ⟨[.ref a], []⟩ [.ref a] [.ref a] _ rfl hr e0 (hbind s (.ref a)) (.cons rfl .nil) hsp) fun r s' z => ?_
  cases r with
  | error e => exact z.elim
  | ok fl =>
    cases fl with
    | next => exact z.elim
    | brk => exact z.elim
    | cont => exact z.elim
    | ret u =>
      obtain ⟨v, H2, os, bare, un, hok2, rv, q⟩ := z
      subst q
      obtain rfl : u = Value.bool true := rv
      refine ⟨rfl, OldK.of_keep fun b o e => ?_, os, bare⟩
      cases q : H b with
      | none => exact un.keep b o e q (fun z => absurd (show b ∈ ([] : List Addr) from z) List.not_mem_nil) (fun z => absurd (show b ∈ ([] : List Addr) from z) List.not_mem_nil)
      | some y =>
        obtain ⟨_, _, ob, xs, hy⟩ := L.only b y q
        subst hy
        have o1 := (hok b _ q).1
        rw [e] at o1
        cases o1
        exact (hok2 b _ (un.frzs b _ _ q)).1
theorem lawG (KX : K.In s.heap) (hns : s.heap.Ns mainGlobals mg) (hb : s.heap.Ns builtinsNs mb)
    (hbb : ∀ x : Str, x ≠ "__name__" → mb x = bootBuiltins x) (hlim : s.heap.NoLimit) (hg : s.gens = #[])
    (ha : s.heap.get? a = some { cls := .type "list", data := .seq vs.toArray }) (hi : IntsAre vs ns) (hl : ns.length ≤ sizeLine) (hr : Room k callerA)
    (F : ∀ base : Heap, K.In base → base.Ns mainGlobals mg → FnG P w K mg base k fa fd [x] sp)
    (hbind : ∀ (s : Shared) (u : Value), BindsTo s fd ⟨[u], []⟩ [(x, u)])
    (hsp : ∀ H : Hp, SqL K H a (ns.map V.int) → sp [.ref a] H (fun v _ => v = .bl true) E0) :
    codeAny (model P w) callerA (.call (.ref fa) ⟨[.ref a], []⟩)
      (fun r s' => r = .ok (.ret (.bool true)) ∧ OldK s.heap s'.heap ∧ s'.os = s.os ∧ AllBare s'.gens) s := by
  have rv := vals_ints hi
  cases hk : K.lookup a with
  | some o =>
    have e := KX a o hk
    rw [ha] at e
    cases e
    exact lawAt (H := fun _ => none) ⟨fun _ _ z => nomatch z⟩ (fun _ _ z => nomatch z) KX hns hb hbb hlim hg ha hr F hbind
      (hsp _ (.inr ⟨_, _, _, hk, rfl, rfl, rfl, by rw [List.size_toArray, hi.length]; exact hl, rv⟩))
  | none =>
    refine lawAt (H := oneH a { cls := .type "list", data := .seq vs.toArray } (ns.map V.int)) ⟨fun b u z => ?_⟩ (fun b u z => ?_) KX hns hb hbb hlim hg ha hr F hbind (hsp _ (.inl (.inr ⟨_, oneH_at⟩)))
    all_goals
      by_cases hba : b = a
      · subst hba
        rw [oneH_at] at z
        cases z
        first
          | exact ⟨rfl, hk, _, _, rfl⟩
          | exact ⟨ha, by rw [List.length_map]; exact hl, vs, _, rv, ha⟩
      · rw [oneH_no hba] at z
        cases z
end
/-- the row from the promise of law -/
theorem walkG {l : PySem.W.OpenLaw} {n k : Nat} {q : Program} {loose : List Str} {XP : (Str → Option Value) → Heap → Prop} {YP : World → Heap → Prop} {d : DefRec} {K : Params → PySem.W.Frag} {sp : PySem.W.Frag → Sp} {x : Str}
    (hn : l.most = some n) (hn2 : n ≤ sizeLine) (hdf : d.params.defaults = []) (hr : Room k callerA) (hY : ∀ (w : World) (h : Heap), YP w h → (K w.params).In h)
    (F : ∀ (w : World) (mg : Str → Option Value) (fa : Addr) (h : Heap), (K w.params).In h → h.Ns mainGlobals mg → mg d.name = some (.ref fa) →
      ∃ fd : FuncData, (∀ (s : Shared) (u : Value), BindsTo s fd ⟨[u], []⟩ [(x, u)]) ∧
        ∀ base : Heap, (K w.params).In base → base.Ns mainGlobals mg → FnG l.prog w (K w.params) mg base k fa fd [x] (sp (K w.params)))
    (hsp : ∀ (K : PySem.W.Frag) (H : Hp) (a : Addr) (ns : List Int), ns.length ≤ n → SqL K H a (ns.map V.int) → sp K [.ref a] H (fun v _ => v = .bl true) E0) :
    PySem.W.WalkO q loose XP YP l.row.toRowW d [] (fun f vs => PySem.call f vs) := by
  refine Att.attach_call hn hdf fun w s0 s1 mg mb fa o pm cd doc a vs ns G Y ho hd hcd hmg hobj hints hlen hg => ?_
  have KX := hY w _ Y
  obtain ⟨fd, hb, hF⟩ := F w mg fa _ KX G.T.g hmg
  exact lawG KX G.T.g G.T.b G.T.builtins G.T.nolimit hg hobj hints (Nat.le_trans hlen hn2) hr hF hb fun H hS => hsp _ H a ns hlen hS
end Yw

set_option Elab.async false
set_option linter.all false
set_option maxRecDepth 100000
set_option maxHeartbeats 4000000
/-! Own layer B: values by what they say (data), what may change apart. -/
namespace Yw
open PySem PySem.Spec PyProof.Rows L2

def Ex (H H' : Hp) : Prop := ∀ a o, H a = some o → H' a = some o
theorem Ex.rfl' (H : Hp) : Ex H H := fun _ _ h => h
theorem Ex.tr {H H1 H2 : Hp} (a : Ex H H1) (b : Ex H1 H2) : Ex H H2 := fun x o h => b x o (a x o h)
theorem Ex.add {G : Hp} {p : Addr} {o : HO} (h : G p = none) : Ex G (upd G p o) := fun a u e => by
  rw [upd_ne (ne_of_none e h)]
  exact e
theorem Ex.l {K : PySem.W.Frag} {H H' : Hp} {a : Addr} {xs : List V} (e : Ex H H') (h : SqL K H a xs) : SqL K H' a xs := Same.seq e h
theorem Ex.t {K : PySem.W.Frag} {H H' : Hp} {a : Addr} {xs : List V} (e : Ex H H') (h : SqT K H a xs) : SqT K H' a xs := by
  rcases h with (h | ⟨o, h⟩) | h
  · exact .inl (.inl (e _ _ h))
  · exact .inl (.inr ⟨o, e _ _ h⟩)
  · exact .inr h

/-- a key as data -/
def keyDt : Key → PyData
  | .inl i => .int i
  | .inr x => .str x
/-! a value says the data d, by what stands in G -/
mutual
inductive Rp (K : PySem.W.Frag) (G : Hp) : V → PyData → Prop
  | non : Rp K G .non .none
  | bl (b : Bool) : Rp K G (.bl b) (.bool b)
  | int (i : Int) : Rp K G (.int i) (.int i)
  | str (x : Str) : Rp K G (.str x) (.str x)
  | lst {a : Addr} {xs : List V} {ds : List PyData} : G a = some (.lst xs) → Rps K G xs ds → Rp K G (.ref a) (.list ds)
  | tup {a : Addr} {xs : List V} {ds : List PyData} : SqT K G a xs → Rps K G xs ds → Rp K G (.ref a) (.tuple ds)
  | dic {a : Addr} {ks : List Key} {xs : List V} {kvs : List (PyData × PyData)} : Rd G a (.dK (ks.zip xs)) → ks.length = xs.length → kvs.map (·.1) = ks.map keyDt → Rps K G xs (kvs.map (·.2)) → Rp K G (.ref a) (.dict kvs)
inductive Rps (K : PySem.W.Frag) (G : Hp) : List V → List PyData → Prop
  | nil : Rps K G [] []
  | cons {v : V} {vs : List V} {d : PyData} {ds : List PyData} : Rp K G v d → Rps K G vs ds → Rps K G (v :: vs) (d :: ds)
end
section
variable {K : PySem.W.Frag} {G G' H : Hp}
mutual
theorem rp_dp (e : Ex G H) : ∀ (d : PyData) (v : V), d.canLay0 = true → Rp K G v d → L2.Dp K H v d
  | .none, _, _, h => by cases h; exact .non
  | .bool b, _, _, h => by cases h; exact .bl b
  | .int i, _, _, h => by cases h; exact .int i
  | .str x, _, _, h => by cases h; exact .str x
  | .list ds, _, c, h => by
    cases h with
    | lst hs ha => exact .lst (SqL.of (e _ _ hs)) (rps_dp e ds _ (by simpa [PyData.canLay0] using c) ha)
  | .tuple ds, _, c, h => by
    cases h with
    | tup hs ha => exact .tup (e.t hs) (rps_dp e ds _ (by simpa [PyData.canLay0] using c) ha)
  | .dict _, _, c, _ => nomatch c
theorem rps_dp (e : Ex G H) : ∀ (ds : List PyData) (vs : List V), PyData.canLayAll0 ds = true → Rps K G vs ds → L2.DpAll K H vs ds
  | [], _, _, h => by cases h; exact .nil
  | d :: ds, _, c, h => by
    have c : d.canLay0 = true ∧ PyData.canLayAll0 ds = true := by simpa [PyData.canLayAll0] using c
    cases h with
    | cons h1 h2 => exact .cons (rp_dp e d _ c.1 h1) (rps_dp e ds _ c.2 h2)
end
theorem rdUp (e : Ex G G') {a : Addr} {u : HO} (h : Rd G a u) : Rd G' a u := h.elim (fun h => .inl (e _ _ h)) fun ⟨o, h⟩ => .inr ⟨o, e _ _ h⟩
theorem dpUp (e : Ex G G') (d : PyData) (v : V) (h : Rp K G v d) : Rp K G' v d :=
  Rp.rec (motive_1 := fun v d _ => Rp K G' v d) (motive_2 := fun vs ds _ => Rps K G' vs ds) .non (fun b => .bl b) (fun i => .int i) (fun x => .str x) (fun g _ ih => .lst (e _ _ g) ih) (fun s _ ih => .tup (e.t s) ih) (fun g l k _ ih => .dic (rdUp e g) l k ih) .nil (fun _ _ a b => .cons a b) h
theorem dpsUp (e : Ex G G') (ds : List PyData) (vs : List V) (h : Rps K G vs ds) : Rps K G' vs ds :=
  Rps.rec (motive_1 := fun v d _ => Rp K G' v d) (motive_2 := fun vs ds _ => Rps K G' vs ds) .non (fun b => .bl b) (fun i => .int i) (fun x => .str x) (fun g _ ih => .lst (e _ _ g) ih) (fun s _ ih => .tup (e.t s) ih) (fun g l k _ ih => .dic (rdUp e g) l k ih) .nil (fun _ _ a b => .cons a b) h
theorem dps_len : ∀ {vs : List V} {ds : List PyData}, Rps K G vs ds → vs.length = ds.length
  | _, _, .nil => rfl
  | _, _, .cons _ h => congrArg (· + 1) (dps_len h)
theorem dps_at : ∀ {vs : List V} {ds : List PyData} {i : Nat} {d : PyData}, Rps K G vs ds → ds[i]? = some d → ∃ v, vs[i]? = some v ∧ Rp K G v d
  | _, _, _, _, .nil, e => by simp at e
  | _, _, 0, _, .cons h _, e => by simp at e; subst e; exact ⟨_, rfl, h⟩
  | _, _, i + 1, _, .cons _ h, e => by
    obtain ⟨v, a, b⟩ := dps_at (i := i) h (by simpa using e)
    exact ⟨v, by simpa using a, b⟩
theorem dps_app : ∀ {vs ws : List V} {ds es : List PyData}, Rps K G vs ds → Rps K G ws es → Rps K G (vs ++ ws) (ds ++ es)
  | _, _, _, _, .nil, h => h
  | _, _, _, _, .cons a b, h => .cons a (dps_app b h)
theorem dps_take : ∀ (n : Nat) {vs : List V} {ds : List PyData}, Rps K G vs ds → Rps K G (vs.take n) (ds.take n)
  | 0, _, _, _ => by simpa using Rps.nil
  | _ + 1, _, _, .nil => .nil
  | n + 1, _, _, .cons a b => .cons a (dps_take n b)
theorem dps_drop : ∀ (n : Nat) {vs : List V} {ds : List PyData}, Rps K G vs ds → Rps K G (vs.drop n) (ds.drop n)
  | 0, _, _, h => h
  | _ + 1, _, _, .nil => .nil
  | n + 1, _, _, .cons _ b => dps_drop n b
theorem dps_set : ∀ (n : Nat) {vs : List V} {ds : List PyData} {v : V} {d : PyData}, Rps K G vs ds → Rp K G v d → Rps K G (vs.set n v) (ds.set n d)
  | _, _, _, _, _, .nil, _ => by simpa using Rps.nil
  | 0, _, _, _, _, .cons _ b, h => .cons h b
  | n + 1, _, _, _, _, .cons a b, h => .cons a (dps_set n b h)
theorem dps_ints : ∀ {ns : List Int} {vs : List V}, Rps K G vs (ns.map .int) → vs = ns.map V.int
  | [], _, h => by cases h; rfl
  | n :: ns, _, h => by
    cases h with
    | cons a b =>
      cases a
      rw [dps_ints b]
      rfl
theorem ints_dps : ∀ (ns : List Int), Rps K G (ns.map V.int) (ns.map PyData.int)
  | [] => .nil
  | n :: ns => .cons (.int n) (ints_dps ns)
end

/-- what a thing is known to be: nothing, data, an object that may change -/
inductive Ent where
  | no
  | dat (d : PyData)
  | ref (a : Addr)
  | ty (n : String)
  | scr (ns : List Int)
  | pln (ds : List PyData)
  | fdi (kvs : List (Int × PyData))
/-- an object that may change -/
inductive MO where
  | lst (ds : List PyData)
  | dct (kvs : List (Key × PyData))
  | tab (q : Str)
abbrev MM := List (Addr × MO)
abbrev dom (M : MM) : List Addr := M.map (·.1)

section
variable (K : PySem.W.Frag)
def EntV (G : Hp) (v : V) : Ent → Prop
  | .no => True
  | .dat d => Rp K G v d
  | .ref a => v = .ref a
  | .ty n => v = .ty n
  | .scr ns => ∃ a, v = .ref a ∧ SqL K G a (ns.map V.int)
  | .pln ds => ∃ a xs o, v = .ref a ∧ G a = some (.frz o (.tup xs)) ∧ o.dict = none ∧ Rps K G xs ds
  | .fdi kvs => ∃ a xs o, v = .ref a ∧ G a = some (.frz o (.dK ((kvs.map fun p => (Sum.inl p.1 : Key)).zip xs))) ∧ xs.length = kvs.length ∧ Rps K G xs (kvs.map (·.2))
def EntS (G : Hp) : Option V → Ent → Prop
  | _, .no => True
  | some v, e => EntV K G v e
  | none, _ => False
inductive En (G : Hp) : L2.St → List Ent → Prop
  | nil : En G [] []
  | cons {o : Option V} {e : Ent} {σ : L2.St} {es : List Ent} : EntS K G o e → En G σ es → En G (o :: σ) (e :: es)
inductive EnA (G : Hp) : List V → List Ent → Prop
  | nil : EnA G [] []
  | cons {v : V} {e : Ent} {vs : List V} {es : List Ent} : EntV K G v e → EnA G vs es → EnA G (v :: vs) (e :: es)
def MOk (G H : Hp) (a : Addr) : MO → Prop
  | .lst ds => ∃ xs, H a = some (.lst xs) ∧ Rps K G xs ds
  | .dct kvs => ∃ vs : List (Key × V), H a = some (.dK vs) ∧ Paired (fun (p : Key × V) (q : Key × PyData) => p.1 = q.1 ∧ Rp K G p.2 q.2) vs kvs
  | .tab q => ∃ ps : Array Value, H a = some (.tbl ps) ∧ TriplesOk ps.toList ∧ ∀ (at_ : Pos) (cv : Value), codeAmong at_ ps.toList = some cv → ∃ c, cv = .ref c ∧ G c = some (LamX.CodeO c q)
/-- the data G and what may change M, both in H, apart -/
structure Wf (G : Hp) (M : MM) (H : Hp) : Prop where
  gh : Ex G H
  mh : ∀ p ∈ M, MOk K G H p.1 p.2
  mg : ∀ p ∈ M, G p.1 = none
  nd : (dom M).Nodup
end
/-- from (G, H) to (G', H'): all that is not in D stays, data grow by new things alone -/
structure Grow (D : List Addr) (G H G' H' : Hp) : Prop where
  gg : Ex G G'
  fr : ∀ a, H a ≠ none → G' a = G a
  kp : ∀ a o, H a = some o → a ∉ D → H' a = some o
  al : ∀ a, H a ≠ none → H' a ≠ none
section
variable {K : PySem.W.Frag} {G G1 G2 H H1 H2 : Hp} {D D' : List Addr} {M M1 : MM}
theorem Grow.refl (D : List Addr) (G H : Hp) : Grow D G H G H := ⟨Ex.rfl' G, fun _ _ => rfl, fun _ _ h _ => h, fun _ h => h⟩
theorem Grow.trans (a : Grow D G H G1 H1) (b : Grow D G1 H1 G2 H2) : Grow D G H G2 H2 :=
  ⟨a.gg.tr b.gg, fun p h => (b.fr p (a.al p h)).trans (a.fr p h), fun p o h n => b.kp p o (a.kp p o h n) n, fun p h => b.al p (a.al p h)⟩
/-- the second step may also change what is new since the first -/
theorem Grow.transN (a : Grow D G H G1 H1) (b : Grow D' G1 H1 G2 H2) (h : ∀ p ∈ D', p ∈ D ∨ H p = none) : Grow D G H G2 H2 :=
  ⟨a.gg.tr b.gg, fun p h => (b.fr p (a.al p h)).trans (a.fr p h), fun p o e n => b.kp p o (a.kp p o e n) (fun z => by
    rcases h p z with q | q
    · exact n q
    · rw [e] at q; cases q), fun p h => b.al p (a.al p h)⟩
theorem Grow.wide (a : Grow D G H G1 H1) (h : ∀ p ∈ D, p ∈ D') : Grow D' G H G1 H1 :=
  ⟨a.gg, a.fr, fun p o e n => a.kp p o e fun z => n (h p z), a.al⟩
theorem moUp {a : Addr} {mo : MO} (e : Ex G G1) (h : H1 a = H a) (m : MOk K G H a mo) : MOk K G1 H1 a mo := by
  cases mo with
  | lst ds =>
    obtain ⟨xs, p, q⟩ := m
    exact ⟨xs, h.trans p, dpsUp e _ _ q⟩
  | dct kvs =>
    obtain ⟨vs, p, q⟩ := m
    refine ⟨vs, h.trans p, ?_⟩
    clear p
    induction q with
    | nil => exact .nil
    | cons r _ ih => exact .cons ⟨r.1, dpUp e _ _ r.2⟩ ih
  | tab q =>
    obtain ⟨ps, p, t, k⟩ := m
    exact ⟨ps, h.trans p, t, fun at_ cv hc => (k at_ cv hc).elim fun c z => ⟨c, z.1, e _ _ z.2⟩⟩
theorem MOk.some {a : Addr} {mo : MO} (m : MOk K G H a mo) : ∃ o, H a = some o := by
  cases mo with
  | lst ds => exact ⟨_, m.choose_spec.1⟩
  | dct kvs => exact ⟨_, m.choose_spec.1⟩
  | tab q => exact ⟨_, m.choose_spec.1⟩
theorem EntV.up {v : V} {e : Ent} (x : Ex G G1) (h : EntV K G v e) : EntV K G1 v e := by
  cases e with
  | no => trivial
  | dat d => exact dpUp x _ _ h
  | ref a => exact h
  | ty n => exact h
  | scr ns => exact h.elim fun a z => ⟨a, z.1, x.l z.2⟩
  | pln ds => obtain ⟨a, xs, o, e, g, n, r⟩ := h; exact ⟨a, xs, o, e, x _ _ g, n, dpsUp x _ _ r⟩
  | fdi kvs => obtain ⟨a, xs, o, e, g, n, r⟩ := h; exact ⟨a, xs, o, e, x _ _ g, n, dpsUp x _ _ r⟩
theorem EntS.up {o : Option V} {e : Ent} (x : Ex G G1) (h : EntS K G o e) : EntS K G1 o e := by
  cases o with
  | none => cases e <;> first | trivial | exact h.elim
  | some v =>
    cases e with
    | no => trivial
    | dat d => exact dpUp x d v h
    | ref a => exact h
    | ty n => exact h
    | scr ns => exact EntV.up (e := .scr ns) x h
    | pln ds => exact EntV.up (e := .pln ds) x h
    | fdi kvs => exact EntV.up (e := .fdi kvs) x h
theorem En.up {σ : L2.St} {es : List Ent} (x : Ex G G1) (h : En K G σ es) : En K G1 σ es := by
  induction h with
  | nil => exact .nil
  | cons a _ ih => exact .cons (a.up x) ih
theorem En.at {σ : L2.St} {es : List Ent} (h : En K G σ es) : ∀ {i : Nat} {e : Ent}, es[i]? = some e → e ≠ .no → ∃ v, σ[i]? = some (some v) ∧ EntV K G v e := by
  induction h with
  | nil => intro i e q; simp at q
  | @cons o e' σ es a _ ih =>
    intro i e q n
    cases i with
    | zero =>
      simp at q
      subst q
      cases o with
      | none => cases e' <;> first | exact absurd rfl n | exact a.elim
      | some v => refine ⟨v, rfl, ?_⟩; cases e' <;> exact a
    | succ i =>
      obtain ⟨v, p, r⟩ := ih (i := i) (by simpa using q) n
      exact ⟨v, by simpa using p, r⟩
theorem En.put {σ : L2.St} {es : List Ent} (h : En K G σ es) {v : V} {e : Ent} (r : EntV K G v e) : ∀ i, En K G (σ.set i (some v)) (es.set i e) := by
  induction h with
  | nil => intro i; simpa using En.nil
  | cons a b ih =>
    intro i
    cases i with
    | zero => exact .cons (by cases e <;> exact r) b
    | succ i => exact .cons a (ih i)
theorem EnA.dats : ∀ {vs : List V} {ds : List PyData}, EnA K G vs (ds.map .dat) → Rps K G vs ds
  | _, [], h => by cases h; exact .nil
  | _, d :: ds, h => by cases h with | cons a b => exact .cons a (EnA.dats b)
theorem EnA.ofDats : ∀ {vs : List V} {ds : List PyData}, Rps K G vs ds → EnA K G vs (ds.map .dat)
  | _, _, .nil => .nil
  | _, _, .cons a b => .cons a (EnA.ofDats b)
theorem En.start : ∀ {vs : List V} {es : List Ent} (n : Nat), EnA K G vs es → En K G (vs.map some ++ List.replicate n none) (es ++ List.replicate n .no)
  | _, _, 0, .nil => .nil
  | _, _, n + 1, .nil => .cons trivial (En.start n .nil)
  | _, _, n, .cons a b => .cons (by rename_i e _ _; cases e <;> exact a) (En.start n b)

/-! ### new data -/
theorem Wf.none_g (W : Wf K G M H) {p : Addr} (h : H p = none) : G p = none := by
  cases q : G p with
  | none => rfl
  | some o => rw [W.gh p o q] at h; cases h
theorem Wf.none_m (W : Wf K G M H) {p : Addr} (h : H p = none) : p ∉ dom M := fun z => by
  obtain ⟨x, hx, rfl⟩ := List.mem_map.mp z
  obtain ⟨o, e⟩ := (W.mh x hx).some
  rw [e] at h; cases h
theorem Wf.newG (W : Wf K G M H) {p : Addr} {o : HO} (h : H p = none) : Wf K (upd G p o) M (upd H p o) ∧ Grow (dom M) G H (upd G p o) (upd H p o) := by
  have hg := W.none_g h
  refine ⟨⟨fun a u e => ?_, fun x hx => ?_, fun x hx => ?_, W.nd⟩, ⟨Ex.add hg, fun a n => ?_, fun a u e _ => Ex.add h a u e, fun a n => ?_⟩⟩
  · by_cases c : a = p
    · subst c; rw [upd_same] at e; rw [upd_same]; exact e
    · rw [upd_ne c] at e ⊢; exact W.gh a u e
  · have c : x.1 ≠ p := fun c => W.none_m h (c ▸ List.mem_map.mpr ⟨x, hx, rfl⟩)
    exact moUp (Ex.add hg) (upd_ne c) (W.mh x hx)
  · have c : x.1 ≠ p := fun c => W.none_m h (c ▸ List.mem_map.mpr ⟨x, hx, rfl⟩)
    rw [upd_ne c]; exact W.mg x hx
  · rw [upd_ne]; rintro rfl; exact n h
  · by_cases c : a = p
    · subst c; rw [upd_same]; exact fun z => nomatch z
    · rw [upd_ne c]; exact n
/-- a new object that may change -/
theorem Wf.newM (W : Wf K G M H) {p : Addr} {xs : List V} {ds : List PyData} (h : H p = none) (hd : Rps K G xs ds) :
    Wf K G (M ++ [(p, .lst ds)]) (upd H p (.lst xs)) ∧ Grow (dom M) G H G (upd H p (.lst xs)) := by
  have hg := W.none_g h
  have hm := W.none_m h
  refine ⟨⟨W.gh.tr (Ex.add h), fun x hx => ?_, fun x hx => ?_, ?_⟩, ⟨Ex.rfl' G, fun _ _ => rfl, fun a u e _ => Ex.add h a u e, fun a n => ?_⟩⟩
  · rcases List.mem_append.mp hx with q | q
    · have c : x.1 ≠ p := fun c => hm (c ▸ List.mem_map.mpr ⟨x, q, rfl⟩)
      exact moUp (Ex.rfl' G) (upd_ne c) (W.mh x q)
    · obtain rfl := List.mem_singleton.mp q
      exact ⟨xs, upd_same, hd⟩
  · rcases List.mem_append.mp hx with q | q
    · exact W.mg x q
    · obtain rfl := List.mem_singleton.mp q
      exact hg
  · show (List.map _ (M ++ _)).Nodup
    rw [List.map_append]
    exact List.nodup_append.mpr ⟨W.nd, by simp, fun a ha b hb => by
      have : b = p := by simpa using hb
      subst this
      rintro rfl
      exact hm ha⟩
  · by_cases c : a = p
    · subst c; rw [upd_same]; exact fun z => nomatch z
    · rw [upd_ne c]; exact n
/-- a part of what may change -/
theorem Wf.part (W : Wf K G M H) (s : M1.Sublist M) : Wf K G M1 H :=
  ⟨W.gh, fun p hp => W.mh p (s.subset hp), fun p hp => W.mg p (s.subset hp), W.nd.sublist (s.map _)⟩
/-- a callee has changed the head objects alone -/
theorem Wf.back {Mh Mh1 Mr : MM} (W : Wf K G (Mh ++ Mr) H) (g : Grow (dom Mh) G H G1 H1) (W1 : Wf K G1 Mh1 H1) (e : dom Mh1 = dom Mh) : Wf K G1 (Mh1 ++ Mr) H1 := by
  have nd := W.nd
  unfold dom at nd
  rw [List.map_append] at nd
  have ap := List.nodup_append.mp nd
  have out : ∀ x ∈ Mr, x.1 ∉ dom Mh := fun x hx z => ap.2.2 _ z _ (List.mem_map.mpr ⟨x, hx, rfl⟩) rfl
  refine ⟨W1.gh, fun x hx => ?_, fun x hx => ?_, ?_⟩
  · rcases List.mem_append.mp hx with q | q
    · exact W1.mh x q
    · have m := W.mh x (List.mem_append_right _ q)
      obtain ⟨o, ho⟩ := m.some
      exact moUp g.gg ((g.kp _ _ ho (out x q)).trans ho.symm) m
  · rcases List.mem_append.mp hx with q | q
    · exact W1.mg x q
    · obtain ⟨o, ho⟩ := (W.mh x (List.mem_append_right _ q)).some
      rw [g.fr x.1 (by rw [ho]; exact fun z => nomatch z)]
      exact W.mg x (List.mem_append_right _ q)
  · show (List.map _ _).Nodup
    rw [List.map_append, show Mh1.map (·.1) = Mh.map (·.1) from e]
    exact nd
/-- one object is changed -/
theorem Wf.chg {Ma Mb : MM} {p : Addr} {mo : MO} {xs : List V} {ds : List PyData} (W : Wf K G (Ma ++ (p, mo) :: Mb) H) (hd : Rps K G xs ds) :
    Wf K G (Ma ++ (p, .lst ds) :: Mb) (upd H p (.lst xs)) ∧ Grow (dom (Ma ++ (p, mo) :: Mb)) G H G (upd H p (.lst xs)) := by
  have nd := W.nd
  have ed : dom (Ma ++ (p, MO.lst ds) :: Mb) = dom (Ma ++ (p, mo) :: Mb) := by simp [dom]
  have hg : G p = none := W.mg (p, mo) (by simp)
  have oth : ∀ x, x ∈ Ma ∨ x ∈ Mb → x.1 ≠ p := by
    intro x hx c
    unfold dom at nd
    rw [List.map_append, List.map_cons] at nd
    have ap := List.nodup_append.mp nd
    rcases hx with q | q
    · exact ap.2.2 _ (List.mem_map.mpr ⟨x, q, rfl⟩) p (by simp) c
    · exact (List.nodup_cons.mp ap.2.1).1 (c ▸ List.mem_map.mpr ⟨x, q, rfl⟩)
  refine ⟨⟨fun a u e => ?_, fun x hx => ?_, fun x hx => ?_, by rw [ed]; exact nd⟩, ⟨Ex.rfl' G, fun _ _ => rfl, fun a u e n => ?_, fun a n => ?_⟩⟩
  · rw [upd_ne (ne_of_none e hg)]; exact W.gh a u e
  · rcases List.mem_append.mp hx with q | q
    · exact moUp (Ex.rfl' G) (upd_ne (oth x (.inl q))) (W.mh x (List.mem_append_left _ q))
    · rcases List.mem_cons.mp q with q | q
      · subst q; exact ⟨xs, upd_same, hd⟩
      · exact moUp (Ex.rfl' G) (upd_ne (oth x (.inr q))) (W.mh x (List.mem_append_right _ (List.mem_cons_of_mem _ q)))
  · rcases List.mem_append.mp hx with q | q
    · exact W.mg x (List.mem_append_left _ q)
    · rcases List.mem_cons.mp q with q | q
      · subst q; exact hg
      · exact W.mg x (List.mem_append_right _ (List.mem_cons_of_mem _ q))
  · rw [upd_ne]
    · exact e
    · rintro rfl; exact n (by simp [dom])
  · by_cases c : a = p
    · subst c; rw [upd_same]; exact fun z => nomatch z
    · rw [upd_ne c]; exact n
end
end Yw

set_option Elab.async false
set_option linter.all false
set_option maxRecDepth 100000
set_option maxHeartbeats 4000000
/-! Own layer C: what an expression comes to, as data; statements; a def's promise. -/
namespace Yw
open PySem PySem.Spec PyProof.Rows L2

section
variable (K : PySem.W.Frag)
/-- what follows a value -/
def Res (M : MM) (G H : Hp) (P : Ent → MM → Prop) (Q : VK) : Prop :=
  ∀ e M1 v G1 H1, P e M1 → dom M1 = dom M → Grow (dom M) G H G1 H1 → Wf K G1 M1 H1 → EntV K G1 v e → Q v H1
def ResT (M : MM) (G H : Hp) (P : Bool → MM → Prop) (Q : Bool → Hp → Prop) : Prop :=
  ∀ b M1 G1 H1, P b M1 → dom M1 = dom M → Grow (dom M) G H G1 H1 → Wf K G1 M1 H1 → Q b H1
def ResA (M : MM) (G H : Hp) (P : List Ent → MM → Prop) (Q : List V → Hp → Prop) : Prop :=
  ∀ es M1 vs G1 H1, P es M1 → dom M1 = dom M → Grow (dom M) G H G1 H1 → Wf K G1 M1 H1 → EnA K G1 vs es → Q vs H1
def ResO (M : MM) (G H : Hp) (P : Option Int → MM → Prop) (Q : Option Int → Hp → Prop) : Prop :=
  ∀ o M1 G1 H1, P o M1 → dom M1 = dom M → Grow (dom M) G H G1 H1 → Wf K G1 M1 H1 → Q o H1
def ResG (M : MM) (G H : Hp) (P : List Ent → MM → Prop) (Q : L2.St → Hp → Prop) : Prop :=
  ∀ es M1 σ1 G1 H1, P es M1 → dom M1 = dom M → Grow (dom M) G H G1 H1 → Wf K G1 M1 H1 → En K G1 σ1 es → Q σ1 H1
def Ev (te : TE) (es : List Ent) (M : MM) (P : Ent → MM → Prop) : Prop :=
  ∀ σ G H Q, En K G σ es → Wf K G M H → Res K M G H P Q → te σ H Q
def EvT (tt : TT) (es : List Ent) (M : MM) (P : Bool → MM → Prop) : Prop :=
  ∀ σ G H Q, En K G σ es → Wf K G M H → ResT K M G H P Q → tt σ H Q
def EvA (ta : TA) (es : List Ent) (M : MM) (P : List Ent → MM → Prop) : Prop :=
  ∀ σ G H Q, En K G σ es → Wf K G M H → ResA K M G H P Q → ta σ H Q
def EvO (to : TO) (es : List Ent) (M : MM) (P : Option Int → MM → Prop) : Prop :=
  ∀ σ G H Q, En K G σ es → Wf K G M H → ResO K M G H P Q → to σ H Q
def Op2 (r : R2) (a b : Ent) (M : MM) (P : Ent → MM → Prop) : Prop :=
  ∀ x y G H Q, EntV K G x a → EntV K G y b → Wf K G M H → Res K M G H P Q → r x y H Q
def Op1 (r : V → Hp → VK → Prop) (a : Ent) (M : MM) (P : Ent → MM → Prop) : Prop :=
  ∀ x G H Q, EntV K G x a → Wf K G M H → Res K M G H P Q → r x H Q
def Cb (r : List V → Hp → VK → Prop) (as : List Ent) (M : MM) (P : Ent → MM → Prop) : Prop :=
  ∀ vs G H Q, EnA K G vs as → Wf K G M H → Res K M G H P Q → r vs H Q
def Mt (r : V → List V → Hp → VK → Prop) (a : Ent) (as : List Ent) (M : MM) (P : Ent → MM → Prop) : Prop :=
  ∀ x vs G H Q, EntV K G x a → EnA K G vs as → Wf K G M H → Res K M G H P Q → r x vs H Q
def Sl (r : V → Option Int → Option Int → Hp → VK → Prop) (a : Ent) (lo hi : Option Int) (M : MM) (P : Ent → MM → Prop) : Prop :=
  ∀ x G H Q, EntV K G x a → Wf K G M H → Res K M G H P Q → r x lo hi H Q
def Tg (g : TG) (a : Ent) (es : List Ent) (M : MM) (P : List Ent → MM → Prop) : Prop :=
  ∀ v σ G H Q, EntV K G v a → En K G σ es → Wf K G M H → ResG K M G H P Q → g v σ H Q
def Tgs (g : TGs) (ds : List PyData) (es : List Ent) (M : MM) (P : List Ent → MM → Prop) : Prop :=
  ∀ vs σ G H Q, Rps K G vs ds → En K G σ es → Wf K G M H → ResG K M G H P Q → g vs σ H Q
end

section
variable {K : PySem.W.Frag} {M M1 : MM} {G G1 H H1 : Hp} {es : List Ent} {P : Ent → MM → Prop}
theorem Res.go {Q : VK} (r : Res K M G H P Q) (e : dom M1 = dom M) (g : Grow (dom M) G H G1 H1) : Res K M1 G1 H1 P Q :=
  fun a M2 v G2 H2 p d g2 w x => r a M2 v G2 H2 p (d.trans e) (g.trans (e ▸ g2)) w x
theorem ResT.go {P : Bool → MM → Prop} {Q : Bool → Hp → Prop} (r : ResT K M G H P Q) (e : dom M1 = dom M) (g : Grow (dom M) G H G1 H1) : ResT K M1 G1 H1 P Q :=
  fun b M2 G2 H2 p d g2 w => r b M2 G2 H2 p (d.trans e) (g.trans (e ▸ g2)) w
theorem ResA.go {P : List Ent → MM → Prop} {Q : List V → Hp → Prop} (r : ResA K M G H P Q) (e : dom M1 = dom M) (g : Grow (dom M) G H G1 H1) : ResA K M1 G1 H1 P Q :=
  fun a M2 v G2 H2 p d g2 w x => r a M2 v G2 H2 p (d.trans e) (g.trans (e ▸ g2)) w x
theorem ResO.go {P : Option Int → MM → Prop} {Q : Option Int → Hp → Prop} (r : ResO K M G H P Q) (e : dom M1 = dom M) (g : Grow (dom M) G H G1 H1) : ResO K M1 G1 H1 P Q :=
  fun b M2 G2 H2 p d g2 w => r b M2 G2 H2 p (d.trans e) (g.trans (e ▸ g2)) w
theorem ResG.go {P : List Ent → MM → Prop} {Q : L2.St → Hp → Prop} (r : ResG K M G H P Q) (e : dom M1 = dom M) (g : Grow (dom M) G H G1 H1) : ResG K M1 G1 H1 P Q :=
  fun a M2 v G2 H2 p d g2 w x => r a M2 v G2 H2 p (d.trans e) (g.trans (e ▸ g2)) w x
theorem Res.val {Q : VK} (r : Res K M G H P Q) (w : Wf K G M H) {e : Ent} {v : V} (p : P e M) (x : EntV K G v e) : Q v H := r e M v G H p rfl (Grow.refl _ _ _) w x
theorem Res.new {Q : VK} (r : Res K M G H P Q) (w : Wf K G M H) {d : PyData} {o : HO} (p : P (.dat d) M) (x : ∀ a, G a = none → Rp K (upd G a o) (.ref a) d) : ∀ a, H a = none → Q (.ref a) (upd H a o) :=
  fun a ha => r (.dat d) M (.ref a) _ _ p rfl (w.newG ha).2 (w.newG ha).1 (x a (w.none_g ha))

/-! ### expressions -/
theorem ev_var {i : Nat} {e : Ent} (h : es[i]? = some e) (n : e ≠ .no) (p : P e M) : Ev K (tVar i) es M P := fun σ G H Q en w r => by
  obtain ⟨v, a, b⟩ := en.at h n
  exact ⟨v, a, r.val w p b⟩
theorem ev_dat {i : Nat} {d : PyData} (h : es[i]? = some (.dat d)) (p : P (.dat d) M) : Ev K (tVar i) es M P := ev_var h (fun z => nomatch z) p
theorem ev_ref {i : Nat} {a : Addr} (h : es[i]? = some (.ref a)) (p : P (.ref a) M) : Ev K (tVar i) es M P := ev_var h (fun z => nomatch z) p
theorem ev_int {i : Int} (p : P (.dat (.int i)) M) : Ev K (tC (.int i)) es M P := fun _ _ _ _ _ w r => r.val w p (.int i)
theorem ev_bl {b : Bool} (p : P (.dat (.bool b)) M) : Ev K (tC (.bl b)) es M P := fun _ _ _ _ _ w r => r.val w p (.bl b)
theorem ev_non (p : P (.dat .none) M) : Ev K (tC .non) es M P := fun _ _ _ _ _ w r => r.val w p .non
theorem ev_ty {n : String} (p : P (.ty n) M) : Ev K (tC (.ty n)) es M P := fun _ _ _ _ _ w r => r.val w p rfl
theorem ev_op {r : R2} {ta tb : TE} (h : Ev K ta es M fun a M1 => Ev K tb es M1 fun b M2 => Op2 K r a b M2 P) : Ev K (tOp r ta tb) es M P := fun σ G H Q en w q =>
  h σ G H _ en w fun a M1 x G1 H1 ha e1 g1 w1 xa => ha σ G1 H1 _ (en.up g1.gg) w1 fun b M2 y G2 H2 hb e2 g2 w2 yb =>
    hb x y G2 H2 Q (xa.up g2.gg) yb w2 ((q.go e1 g1).go e2 g2)
theorem ev_un {r : V → Hp → VK → Prop} {ta : TE} (h : Ev K ta es M fun a M1 => Op1 K r a M1 P) : Ev K (tUn r ta) es M P := fun σ G H Q en w q =>
  h σ G H _ en w fun a M1 x G1 H1 ha e1 g1 w1 xa => ha x G1 H1 Q xa w1 (q.go e1 g1)
theorem ea_nil {P : List Ent → MM → Prop} (p : P [] M) : EvA K tNil es M P := fun _ G H _ _ w r => r [] M [] G H p rfl (Grow.refl _ _ _) w .nil
theorem ea_cons {ta : TE} {tr : TA} {P : List Ent → MM → Prop} (h : Ev K ta es M fun a M1 => EvA K tr es M1 fun as M2 => P (a :: as) M2) : EvA K (tCons ta tr) es M P := fun σ G H Q en w q =>
  h σ G H _ en w fun a M1 x G1 H1 ha e1 g1 w1 xa => ha σ G1 H1 _ (en.up g1.gg) w1 fun b M2 y G2 H2 hb e2 g2 w2 yb =>
    (q.go e1 g1) (a :: b) M2 (x :: y) G2 H2 hb e2 g2 w2 (.cons (xa.up g2.gg) yb)
theorem ev_cb {r : List V → Hp → VK → Prop} {ta : TA} (h : EvA K ta es M fun as M1 => Cb K r as M1 P) : Ev K (tCB r ta) es M P := fun σ G H Q en w q =>
  h σ G H _ en w fun a M1 x G1 H1 ha e1 g1 w1 xa => ha x G1 H1 Q xa w1 (q.go e1 g1)
/-- a def of the text -/
def tGo (sp : Sp) (t : TA) : TE := fun σ H Q => t σ H fun vs H1 => sp vs H1 Q E0
theorem ev_go {sp : Sp} {ta : TA} (h : EvA K ta es M fun as M1 => Cb K (fun vs H Q => sp vs H Q E0) as M1 P) : Ev K (tGo sp ta) es M P := fun σ G H Q en w q =>
  h σ G H _ en w fun a M1 x G1 H1 ha e1 g1 w1 xa => ha x G1 H1 Q xa w1 (q.go e1 g1)
theorem ev_tup {ta : TA} (h : EvA K ta es M fun as M1 => ∃ ds : List PyData, as = ds.map .dat ∧ ds.length ≤ 100000 ∧ P (.dat (.tuple ds)) M1) : Ev K (tTup ta) es M P := fun σ G H Q en w q =>
  h σ G H _ en w fun a M1 x G1 H1 ha e1 g1 w1 xa => by
    obtain ⟨ds, e, n, p⟩ := ha
    subst e
    have xd := EnA.dats xa
    exact ⟨by rw [dps_len xd]; exact Nat.le_trans n (by decide), (q.go e1 g1).new w1 p fun a c => .tup (.inl (.inl upd_same)) (dpsUp (Ex.add c) _ _ xd)⟩
theorem ev_lst {ta : TA} (h : EvA K ta es M fun as M1 => ∃ ds : List PyData, as = ds.map .dat ∧ ds.length ≤ 100000 ∧ P (.dat (.list ds)) M1) : Ev K (tLst ta) es M P := fun σ G H Q en w q =>
  h σ G H _ en w fun a M1 x G1 H1 ha e1 g1 w1 xa => by
    obtain ⟨ds, e, n, p⟩ := ha
    subst e
    have xd := EnA.dats xa
    exact ⟨by rw [dps_len xd]; exact Nat.le_trans n (by decide), (q.go e1 g1).new w1 p fun a c => .lst upd_same (dpsUp (Ex.add c) _ _ xd)⟩
theorem ev_if {t : TT} {ta tb : TE} (h : EvT K t es M fun c M1 => (c = true → Ev K ta es M1 P) ∧ (c = false → Ev K tb es M1 P)) : Ev K (tIf t ta tb) es M P := fun σ G H Q en w q =>
  h σ G H _ en w fun c M1 G1 H1 hc e1 g1 w1 => by
    cases c with
    | true => exact iteT (hc.1 rfl σ G1 H1 Q (en.up g1.gg) w1 (q.go e1 g1))
    | false => exact iteF (hc.2 rfl σ G1 H1 Q (en.up g1.gg) w1 (q.go e1 g1))
theorem ev_andV {ta tb : TE} (h : Ev K ta es M fun a M1 => ∃ c, a = .dat (.bool c) ∧ (c = true → Ev K tb es M1 P) ∧ (c = false → P (.dat (.bool false)) M1)) : Ev K (tAndV ta tb) es M P := fun σ G H Q en w q =>
  h σ G H _ en w fun a M1 x G1 H1 ha e1 g1 w1 xa => by
    obtain ⟨c, e, h1, h2⟩ := ha
    subst e
    cases xa
    refine ⟨c, rfl, ?_⟩
    cases c with
    | true => exact iteT (h1 rfl σ G1 H1 Q (en.up g1.gg) w1 (q.go e1 g1))
    | false => exact iteF ((q.go e1 g1).val w1 (h2 rfl) (.bl false))
theorem ev_notV {ta : TE} (h : Ev K ta es M fun a M1 => ∃ c, a = .dat (.bool c) ∧ P (.dat (.bool (!c))) M1) : Ev K (tNotV ta) es M P := fun σ G H Q en w q =>
  h σ G H _ en w fun a M1 x G1 H1 ha e1 g1 w1 xa => by
    obtain ⟨c, e, h1⟩ := ha
    subst e
    cases xa
    exact ⟨c, rfl, (q.go e1 g1).val w1 h1 (.bl _)⟩
theorem eo_none {P : Option Int → MM → Prop} (p : P none M) : EvO K tNoPart es M P := fun _ G H _ _ w r => r none M G H p rfl (Grow.refl _ _ _) w
theorem eo_some {ta : TE} {P : Option Int → MM → Prop} (h : Ev K ta es M fun a M1 => ∃ i, a = .dat (.int i) ∧ P (some i) M1) : EvO K (tPart ta) es M P := fun σ G H Q en w q =>
  h σ G H _ en w fun a M1 x G1 H1 ha e1 g1 w1 xa => by
    obtain ⟨i, e, p⟩ := ha
    subst e
    cases xa
    exact ⟨i, rfl, (q.go e1 g1) (some i) M1 G1 H1 p rfl (Grow.refl _ _ _) w1⟩
theorem ev_sl {r : V → Option Int → Option Int → Hp → VK → Prop} {te : TE} {tl th : TO} (h : Ev K te es M fun a M1 => EvO K tl es M1 fun lo M2 => EvO K th es M2 fun hi M3 => Sl K r a lo hi M3 P) : Ev K (tSl r te tl th) es M P := fun σ G H Q en w q =>
  h σ G H _ en w fun a M1 x G1 H1 ha e1 g1 w1 xa => ha σ G1 H1 _ (en.up g1.gg) w1 fun lo M2 G2 H2 hb e2 g2 w2 => hb σ G2 H2 _ ((en.up g1.gg).up g2.gg) w2 fun hi M3 G3 H3 hc e3 g3 w3 =>
    hc x G3 H3 Q ((xa.up g2.gg).up g3.gg) w3 (((q.go e1 g1).go e2 g2).go e3 g3)
/-- of what built-in type a thing is -/
def TyE (K : PySem.W.Frag) (T : String) (a : Ent) (M : MM) : Prop := ∀ x G H, EntV K G x a → Wf K G M H → tyV K T x H
theorem ev_bm {T : String} {r : V → List V → Hp → VK → Prop} {to : TE} {ta : TA} (h : Ev K to es M fun a M1 => TyE K T a M1 ∧ EvA K ta es M1 fun as M2 => Mt K r a as M2 P) : Ev K (tBM K T r to ta) es M P := fun σ G H Q en w q =>
  h σ G H _ en w fun a M1 x G1 H1 ha e1 g1 w1 xa => ⟨ha.1 x G1 H1 xa w1, ha.2 σ G1 H1 _ (en.up g1.gg) w1 fun as M2 ys G2 H2 hb e2 g2 w2 yb =>
    hb x ys G2 H2 Q (xa.up g2.gg) yb w2 ((q.go e1 g1).go e2 g2)⟩
theorem ev_bm0 {T : String} {r : V → List V → Hp → VK → Prop} {to : TE} (h : Ev K to es M fun a M1 => TyE K T a M1 ∧ Mt K r a [] M1 P) : Ev K (tBM0 K T r to) es M P := fun σ G H Q en w q =>
  h σ G H _ en w fun a M1 x G1 H1 ha e1 g1 w1 xa => ⟨ha.1 x G1 H1 xa w1, ha.2 x [] G1 H1 Q xa .nil w1 (q.go e1 g1)⟩
theorem ev_chain {r r' : R2} {ta tb tc : TE} (h : Ev K ta es M fun a M1 => Ev K tb es M1 fun b M2 => Op2 K r a b M2 fun z M3 => ∃ c, z = .dat (.bool c) ∧
    (c = true → Ev K tc es M3 fun d M4 => Op2 K r' b d M4 P) ∧ (c = false → P (.dat (.bool false)) M3)) : Ev K (tChain r r' ta tb tc) es M P := fun σ G H Q en w q =>
  h σ G H _ en w fun a M1 x G1 H1 ha e1 g1 w1 xa => ha σ G1 H1 _ (en.up g1.gg) w1 fun b M2 y G2 H2 hb e2 g2 w2 yb =>
    hb x y G2 H2 _ (xa.up g2.gg) yb w2 fun z M3 zv G3 H3 hz e3 g3 w3 xz => by
      have q3 := ((q.go e1 g1).go e2 g2).go e3 g3
      obtain ⟨c, e, h1, h2⟩ := hz
      subst e
      cases xz
      refine ⟨c, rfl, ?_⟩
      cases c with
      | true => exact iteT (h1 rfl σ G3 H3 _ (((en.up g1.gg).up g2.gg).up g3.gg) w3 fun d M4 dv G4 H4 hd e4 g4 w4 xd => hd y dv G4 H4 Q ((yb.up g3.gg).up g4.gg) xd w4 (q3.go e4 g4))
      | false => exact iteF (q3.val w3 (h2 rfl) (.bl false))

/-! ### tests -/
section
variable {P : Bool → MM → Prop} {t u : TT} {te : TE}
theorem et_B (h : Ev K te es M fun a M1 => ∃ c, a = .dat (.bool c) ∧ P c M1) : EvT K (tB te) es M P := fun σ G H Q en w q =>
  h σ G H _ en w fun a M1 x G1 H1 ha e1 g1 w1 xa => by
    obtain ⟨c, e, p⟩ := ha
    subst e
    cases xa
    exact ⟨c, rfl, (q.go e1 g1) c M1 G1 H1 p rfl (Grow.refl _ _ _) w1⟩
theorem et_test (h : Ev K te es M fun a M1 => ∃ c, a = .dat (.bool c) ∧ P c M1) : EvT K (tTest te) es M P := et_B h
theorem et_and (h : EvT K t es M fun a M1 => (a = true → EvT K u es M1 P) ∧ (a = false → P false M1)) : EvT K (tAnd t u) es M P := fun σ G H Q en w q =>
  h σ G H _ en w fun c M1 G1 H1 hc e1 g1 w1 => by
    cases c with
    | true => exact iteT (hc.1 rfl σ G1 H1 Q (en.up g1.gg) w1 (q.go e1 g1))
    | false => exact iteF ((q.go e1 g1) false M1 G1 H1 (hc.2 rfl) rfl (Grow.refl _ _ _) w1)
theorem et_or (h : EvT K t es M fun a M1 => (a = false → EvT K u es M1 P) ∧ (a = true → P true M1)) : EvT K (tOr t u) es M P := fun σ G H Q en w q =>
  h σ G H _ en w fun c M1 G1 H1 hc e1 g1 w1 => by
    cases c with
    | false => exact iteF (hc.1 rfl σ G1 H1 Q (en.up g1.gg) w1 (q.go e1 g1))
    | true => exact iteT ((q.go e1 g1) true M1 G1 H1 (hc.2 rfl) rfl (Grow.refl _ _ _) w1)
theorem et_not (h : EvT K t es M fun a M1 => P (!a) M1) : EvT K (tNot t) es M P := fun σ G H Q en w q =>
  h σ G H _ en w fun c M1 G1 H1 hc e1 g1 w1 => (q.go e1 g1) (!c) M1 G1 H1 hc rfl (Grow.refl _ _ _) w1
theorem et_yes (p : P true M) : EvT K tYes es M P := fun _ G H _ _ w r => r true M G H p rfl (Grow.refl _ _ _) w
end

/-! ### targets -/
section
variable {P : List Ent → MM → Prop}
theorem tg_name {i : Nat} {a : Ent} (p : P (es.set i a) M) : Tg K (gName i) a es M P := fun v σ G H Q xa en w r =>
  r _ M _ G H p rfl (Grow.refl _ _ _) w (en.put xa i)
theorem tgs_nil (p : P es M) : Tgs K gNil [] es M P := fun vs σ G H Q xa en w r => by
  cases xa
  exact ⟨rfl, r _ M _ G H p rfl (Grow.refl _ _ _) w en⟩
theorem tgs_cons {t : TG} {u : TGs} {d : PyData} {ds : List PyData} (h : Tg K t (.dat d) es M fun es1 M1 => Tgs K u ds es1 M1 P) : Tgs K (gCons t u) (d :: ds) es M P := fun vs σ G H Q xa en w r => by
  cases xa with
  | cons x y => exact ⟨_, _, rfl, h _ σ G H _ x en w fun es1 M1 σ1 G1 H1 ha e1 g1 w1 en1 => ha _ σ1 G1 H1 Q (dpsUp g1.gg _ _ y) en1 w1 (r.go e1 g1)⟩
theorem tg_tup {t : TGs} {n : Nat} {ds : List PyData} (hn : ds.length = n) (h : Tgs K t ds es M P) : Tg K (gTup K n t) (.dat (.tuple ds)) es M P := fun v σ G H Q xa en w r => by
  cases xa with
  | tup s a => exact ⟨_, _, rfl, w.gh.t s, by rw [dps_len a, hn], h _ σ G H Q a en w r⟩
end
end
end Yw

set_option Elab.async false
set_option linter.all false
set_option maxRecDepth 100000
set_option maxHeartbeats 4000000
/-! Own layer D: statements by data, loops, comprehensions, a def's promise. -/
namespace Yw
open PySem PySem.Spec PyProof.Rows L2

/-- what is wanted behind a statement -/
structure DE where
  nx : List Ent → MM → Prop
  rt : Ent → MM → Prop
  bk : List Ent → MM → Prop := fun _ _ => False
  ct : List Ent → MM → Prop := fun _ _ => False
/-- how far one is from the start (G0, D0, H0) -/
structure Far (K : PySem.W.Frag) (G0 : Hp) (D0 : List Addr) (H0 : Hp) (G : Hp) (M : MM) (H : Hp) : Prop where
  gr : Grow D0 G0 H0 G H
  wf : Wf K G M H
  own : ∀ a ∈ dom M, a ∈ D0 ∨ H0 a = none
  bs : ∀ a ∈ D0, H0 a ≠ none
def At (K : PySem.W.Frag) (G0 : Hp) (D0 : List Addr) (H0 : Hp) (es : List Ent) (M : MM) (σ : L2.St) (H : Hp) : Prop := ∃ G, Far K G0 D0 H0 G M H ∧ En K G σ es
def AtV (K : PySem.W.Frag) (G0 : Hp) (D0 : List Addr) (H0 : Hp) (e : Ent) (M : MM) (v : V) (H : Hp) : Prop := ∃ G, Far K G0 D0 H0 G M H ∧ EntV K G v e
structure Lk (K : PySem.W.Frag) (G0 : Hp) (D0 : List Addr) (H0 : Hp) (W : DE) (D : Ends) : Prop where
  nx : ∀ es M σ H, W.nx es M → At K G0 D0 H0 es M σ H → D.nx σ H
  rt : ∀ e M v H, W.rt e M → AtV K G0 D0 H0 e M v H → D.rt v H
  bk : ∀ es M σ H, W.bk es M → At K G0 D0 H0 es M σ H → D.bk σ H
  ct : ∀ es M σ H, W.ct es M → At K G0 D0 H0 es M σ H → D.ct σ H
/-- B: the objects that may have changed since the start -/
def Sj (K : PySem.W.Frag) (D0 : List Addr) (ts : TS) (es : List Ent) (M : MM) (W : DE) : Prop :=
  ∀ G0 H0 σ H D, At K G0 D0 H0 es M σ H → Lk K G0 D0 H0 W D → ts D σ H

section
variable {K : PySem.W.Frag} {G0 G G1 H0 H H1 : Hp} {D0 : List Addr} {M M1 : MM} {es : List Ent} {W : DE} {te : TE}
theorem Far.step (f : Far K G0 D0 H0 G M H) (g : Grow (dom M) G H G1 H1) (w : Wf K G1 M1 H1) (e : dom M1 = dom M) : Far K G0 D0 H0 G1 M1 H1 :=
  ⟨f.gr.transN g f.own, w, by rw [e]; exact f.own, f.bs⟩
theorem Far.join (f : Far K G0 D0 H0 G M H) (g : Far K G (dom M) H G1 M1 H1) : Far K G0 D0 H0 G1 M1 H1 :=
  ⟨f.gr.transN g.gr f.own, g.wf, fun a h => by
    rcases g.own a h with q | q
    · exact f.own a q
    · cases z : H0 a with
      | none => exact .inr rfl
      | some o => exact absurd q (f.gr.al a (by rw [z]; exact fun x => nomatch x)), f.bs⟩
theorem Wf.there (w : Wf K G M H) : ∀ a ∈ dom M, H a ≠ none := fun a h => by
  obtain ⟨x, hx, rfl⟩ := List.mem_map.mp h
  obtain ⟨o, e⟩ := (w.mh x hx).some
  rw [e]; exact fun z => nomatch z
theorem Far.refl (w : Wf K G M H) : Far K G (dom M) H G M H := ⟨Grow.refl _ _ _, w, fun _ h => .inl h, w.there⟩
/-- a start of one's own -/
theorem Lk.join {W : DE} {D : Ends} (f : Far K G0 D0 H0 G M H) (l : Lk K G0 D0 H0 W D) : Lk K G (dom M) H W D :=
  ⟨fun es M σ H p ⟨G, a, b⟩ => l.nx es M σ H p ⟨G, f.join a, b⟩, fun e M v H p ⟨G, a, b⟩ => l.rt e M v H p ⟨G, f.join a, b⟩,
    fun es M σ H p ⟨G, a, b⟩ => l.bk es M σ H p ⟨G, f.join a, b⟩, fun es M σ H p ⟨G, a, b⟩ => l.ct es M σ H p ⟨G, f.join a, b⟩⟩

theorem sj_next (p : W.nx es M) : Sj K D0 tNext es M W := fun _ _ _ _ _ a l => l.nx _ _ _ _ p a
theorem sj_seq {t u : TS} (h : Sj K D0 t es M { W with nx := fun es1 M1 => Sj K D0 u es1 M1 W }) : Sj K D0 (tSeq t u) es M W := fun G0 H0 σ H D a l =>
  h G0 H0 σ H _ a ⟨fun es1 M1 σ1 H1 p a1 => p G0 H0 σ1 H1 D a1 l, l.rt, l.bk, l.ct⟩
theorem sj_drop (h : Ev K te es M fun _ M1 => W.nx es M1) : Sj K D0 (tDrop te) es M W := fun G0 H0 σ H D ⟨G, f, en⟩ l =>
  h σ G H _ en f.wf fun e M1 v G1 H1 p d g w x => l.nx es M1 σ H1 p ⟨G1, f.step g w d, en.up g.gg⟩
theorem sj_ret (h : Ev K te es M fun e M1 => W.rt e M1) : Sj K D0 (tRet te) es M W := fun G0 H0 σ H D ⟨G, f, en⟩ l =>
  h σ G H _ en f.wf fun e M1 v G1 H1 p d g w x => l.rt e M1 v H1 p ⟨G1, f.step g w d, x⟩
theorem sj_if {c : TT} {t u : TS} (h : EvT K c es M fun b M1 => (b = true → Sj K D0 t es M1 W) ∧ (b = false → Sj K D0 u es M1 W)) : Sj K D0 (tIfS c t u) es M W := fun G0 H0 σ H D ⟨G, f, en⟩ l =>
  h σ G H _ en f.wf fun b M1 G1 H1 p d g w => by
    cases b with
    | true => exact iteT (p.1 rfl G0 H0 σ H1 D ⟨G1, f.step g w d, en.up g.gg⟩ l)
    | false => exact iteF (p.2 rfl G0 H0 σ H1 D ⟨G1, f.step g w d, en.up g.gg⟩ l)
theorem sj_asg {g : TG} (h : Ev K te es M fun e M1 => Tg K g e es M1 fun es2 M2 => W.nx es2 M2) : Sj K D0 (tAsg te g) es M W := fun G0 H0 σ H D ⟨G, f, en⟩ l =>
  h σ G H _ en f.wf fun e M1 v G1 H1 p d g w x => p v σ G1 H1 _ x (en.up g.gg) w fun es2 M2 σ2 G2 H2 q d2 g2 w2 en2 => l.nx es2 M2 σ2 H2 q ⟨G2, (f.step g w d).step g2 w2 d2, en2⟩

end
end Yw
namespace Yw
open PySem PySem.Spec PyProof.Rows L2
section
variable {K : PySem.W.Frag} {G0 G G1 H0 H H1 : Hp} {D0 : List Addr} {M M1 : MM} {es : List Ent} {W : DE} {te : TE}
theorem sj_set {i : Nat} (h : Ev K te es M fun e M1 => W.nx (es.set i e) M1) : Sj K D0 (tAsg te (gName i)) es M W := fun G0 H0 σ H D ⟨G, f, en⟩ l =>
  h σ G H _ en f.wf fun e M1 v G1 H1 p d g w x => l.nx _ M1 _ H1 p ⟨G1, f.step g w d, (en.up g.gg).put x i⟩
/-- a name gets a new list that may change -/
theorem sj_new {i : Nat} {ta : TA} (h : EvA K ta es M fun as M1 => ∃ ds : List PyData, as = ds.map .dat ∧ ds.length ≤ 100000 ∧ ∀ p, p ∉ D0 → W.nx (es.set i (.ref p)) (M1 ++ [(p, .lst ds)])) : Sj K D0 (tAsg (tLst ta) (gName i)) es M W := fun G0 H0 σ H D ⟨G, f, en⟩ l =>
  h σ G H _ en f.wf fun as M1 vs G1 H1 p d g w x => by
    obtain ⟨ds, e, n, k⟩ := p
    subst e
    have xd := EnA.dats x
    refine ⟨by rw [dps_len xd]; exact Nat.le_trans n (by decide), fun q hq => ?_⟩
    have f1 := f.step g w d
    have z := w.newM hq xd
    refine l.nx _ _ _ _ (k q fun hb => f1.gr.al q (f1.bs q hb) hq) ⟨G1, ⟨f1.gr.transN z.2 f1.own, z.1, fun a ha => ?_, f1.bs⟩, (en.up g.gg).put (e := .ref q) rfl i⟩
    unfold dom at ha
    rw [List.map_append] at ha
    rcases List.mem_append.mp ha with r | r
    · exact f1.own a r
    · have : a = q := by simpa using r
      subst this
      cases z0 : H0 a with
      | none => exact .inr rfl
      | some o => exact absurd hq (f1.gr.al a (by rw [z0]; exact fun x => nomatch x))
end
end Yw

set_option Elab.async false
set_option linter.all false
set_option maxRecDepth 100000
set_option maxHeartbeats 4000000
/-! Own layer E: loops and comprehensions over data. -/
namespace Yw
open PySem PySem.Spec PyProof.Rows L2

/-- J yields the data ds, whatever has grown since G1 -/
def Yl (K : PySem.W.Frag) (G1 : Hp) (J : It) (ds : List PyData) : Prop :=
  ∀ (M : MM) (G H : Hp), Ex G1 G → Wf K G M H →
    (∀ k d, ds[k]? = some d → J.go k H ∧ ∀ x H1, J.yld k H x H1 → ∃ G2, Grow (dom M) G H G2 H1 ∧ Wf K G2 M H1 ∧ Rp K G2 x d) ∧ J.stop ds.length H
def Iw (K : PySem.W.Frag) (wi : TI) (es : List Ent) (M : MM) (P : List PyData → MM → Prop) : Prop :=
  ∀ σ G H R, En K G σ es → Wf K G M H → (∀ ds M1 G1 H1 J, P ds M1 → dom M1 = dom M → Grow (dom M) G H G1 H1 → Wf K G1 M1 H1 → Yl K G1 J ds → R J H1) → wi σ H R

section
variable {K : PySem.W.Frag} {G0 G G1 H0 H H1 : Hp} {D0 : List Addr} {M M1 : MM} {es : List Ent} {W : DE} {te : TE}
theorem yl_list {a : Addr} {xs : List V} {ds : List PyData} (h : SqL K G1 a xs) (x : Rps K G1 xs ds) : Yl K G1 (Itl K a) ds := fun M G H e w => by
  have s := w.gh.l (e.l h)
  refine ⟨fun k d q => ?_, ⟨xs, s, by rw [dps_len x]; exact Nat.le_refl _⟩⟩
  obtain ⟨v, hv, r⟩ := dps_at (dpsUp e _ _ x) q
  refine ⟨⟨xs, v, s, hv⟩, fun y H1 ⟨e1, f⟩ => ?_⟩
  subst e1
  have ev : v = y := Option.some.inj (hv.symm.trans (f xs s))
  subst ev
  exact ⟨G, Grow.refl _ _ _, w, r⟩
theorem yl_tup {a : Addr} {xs : List V} {ds : List PyData} (h : SqT K G1 a xs) (x : Rps K G1 xs ds) : Yl K G1 (Itt K a) ds := fun M G H e w => by
  have s := w.gh.t (e.t h)
  refine ⟨fun k d q => ?_, ⟨xs, s, by rw [dps_len x]; exact Nat.le_refl _⟩⟩
  obtain ⟨v, hv, r⟩ := dps_at (dpsUp e _ _ x) q
  refine ⟨⟨xs, v, s, hv⟩, fun y H1 ⟨e1, f⟩ => ?_⟩
  subst e1
  have ev : v = y := Option.some.inj (hv.symm.trans (f xs s))
  subst ev
  exact ⟨G, Grow.refl _ _ _, w, r⟩
/-- lo, lo + 1, .. -/
def rgD (lo : Int) (n : Nat) : List PyData := (List.range n).map fun (i : Nat) => PyData.int (lo + (i : Int))
theorem rgD_at {lo : Int} {n k : Nat} {d : PyData} (h : (rgD lo n)[k]? = some d) : k < n ∧ d = .int (lo + k) := by
  unfold rgD at h
  rw [List.getElem?_map] at h
  by_cases c : k < n
  · rw [List.getElem?_range c] at h
    exact ⟨c, (Option.some.inj h).symm⟩
  · rw [List.getElem?_eq_none (by simpa using c)] at h
    cases h
theorem rgD_len {lo : Int} {n : Nat} : (rgD lo n).length = n := by simp [rgD]
theorem yl_rng {lo : Int} {n : Nat} : Yl K G1 (Itr lo n) (rgD lo n) := fun M G H e w => by
  refine ⟨fun k d q => ?_, ?_⟩
  · obtain ⟨c, rfl⟩ := rgD_at q
    exact ⟨c, fun y H1 ⟨e1, f⟩ => by subst e1; subst f; exact ⟨G, Grow.refl _ _ _, w, .int _⟩⟩
  · show n ≤ (rgD lo n).length
    rw [rgD_len]; exact Nat.le_refl _
/-- the pairs of two lists -/
def zipD : List PyData → List PyData → List PyData
  | a :: as, b :: bs => .tuple [a, b] :: zipD as bs
  | _, _ => []
theorem zipD_at : ∀ {as bs : List PyData} {k : Nat} {d : PyData}, (zipD as bs)[k]? = some d → ∃ a b, as[k]? = some a ∧ bs[k]? = some b ∧ d = .tuple [a, b]
  | [], _, _, _, h => by simp [zipD] at h
  | _ :: _, [], _, _, h => by simp [zipD] at h
  | a :: as, b :: bs, 0, d, h => ⟨a, b, rfl, rfl, by simpa [zipD] using h.symm⟩
  | a :: as, b :: bs, k + 1, d, h => by
    obtain ⟨x, y, p, q, e⟩ := zipD_at (as := as) (bs := bs) (k := k) (by simpa [zipD] using h)
    exact ⟨x, y, by simpa using p, by simpa using q, e⟩
theorem zipD_len : ∀ (as bs : List PyData), (zipD as bs).length = min as.length bs.length
  | [], _ => by simp [zipD]
  | _ :: _, [] => by simp [zipD]
  | a :: as, b :: bs => by
    show (zipD as bs).length + 1 = min (as.length + 1) (bs.length + 1)
    rw [zipD_len as bs]
    omega
theorem Wf.pair (w : Wf K G M H) {T : Addr} {x y : V} {a b : PyData} (n : H T = none) (hx : Rp K G x a) (hy : Rp K G y b) :
    ∃ G2, Grow (dom M) G H G2 (upd H T (.tup [x, y])) ∧ Wf K G2 M (upd H T (.tup [x, y])) ∧ Rp K G2 (.ref T) (.tuple [a, b]) := by
  have z := w.newG (o := HO.tup [x, y]) n
  have u := Ex.add (o := HO.tup [x, y]) (w.none_g n)
  exact ⟨_, z.2, z.1, .tup (.inl (.inl upd_same)) (.cons (dpUp u _ _ hx) (.cons (dpUp u _ _ hy) .nil))⟩
theorem yl_zip {a b : Addr} {xs ys : List V} {ds cs : List PyData} (h : SqL K G1 a xs) (x : Rps K G1 xs ds) (h2 : SqL K G1 b ys) (y : Rps K G1 ys cs) : Yl K G1 (Itz K a b) (zipD ds cs) := fun M G H e w => by
  have s := w.gh.l (e.l h)
  have s2 := w.gh.l (e.l h2)
  refine ⟨fun k d q => ?_, ⟨xs, ys, s, s2, ?_⟩⟩
  · obtain ⟨p, r, hp, hr, rfl⟩ := zipD_at q
    obtain ⟨v, hv, rv⟩ := dps_at (dpsUp e _ _ x) hp
    obtain ⟨u, hu, ru⟩ := dps_at (dpsUp e _ _ y) hr
    refine ⟨⟨xs, ys, v, u, s, s2, hv, hu⟩, fun z H1 ⟨T, x1, x2, e1, n, e2, f1, f2⟩ => ?_⟩
    subst e1 e2
    obtain rfl := Option.some.inj (hv.symm.trans (f1 xs s))
    obtain rfl := Option.some.inj (hu.symm.trans (f2 ys s2))
    exact w.pair n rv ru
  · rw [zipD_len, ← dps_len x, ← dps_len y]
    omega
theorem yl_zipT {a b : Addr} {xs ys : List V} {ds cs : List PyData} (h : SqT K G1 a xs) (x : Rps K G1 xs ds) (h2 : SqT K G1 b ys) (y : Rps K G1 ys cs) : Yl K G1 (RZ.ItzT K a b) (zipD ds cs) := fun M G H e w => by
  have s := w.gh.t (e.t h)
  have s2 := w.gh.t (e.t h2)
  refine ⟨fun k d q => ?_, ⟨xs, ys, s, s2, ?_⟩⟩
  · obtain ⟨p, r, hp, hr, rfl⟩ := zipD_at q
    obtain ⟨v, hv, rv⟩ := dps_at (dpsUp e _ _ x) hp
    obtain ⟨u, hu, ru⟩ := dps_at (dpsUp e _ _ y) hr
    refine ⟨⟨xs, ys, v, u, s, s2, hv, hu⟩, fun z H1 ⟨T, x1, x2, e1, n, e2, f1, f2⟩ => ?_⟩
    subst e1 e2
    obtain rfl := Option.some.inj (hv.symm.trans (f1 xs s))
    obtain rfl := Option.some.inj (hu.symm.trans (f2 ys s2))
    exact w.pair n rv ru
  · rw [zipD_len, ← dps_len x, ← dps_len y]
    omega

/-! ### what is walked -/
theorem iw_list {P : List PyData → MM → Prop} (h : Ev K te es M fun e M1 => ∃ ds, e = .dat (.list ds) ∧ P ds M1) : Iw K (iList K te) es M P := fun σ G H R en w k =>
  h σ G H _ en w fun e M1 v G1 H1 p d g w1 x => by
    obtain ⟨ds, e, p⟩ := p
    subst e
    cases x with
    | lst s a => exact ⟨_, rfl, ⟨_, SqL.of (w1.gh _ _ s)⟩, k ds M1 G1 H1 _ p d g w1 (yl_list (SqL.of s) a)⟩
theorem iw_tup {P : List PyData → MM → Prop} (h : Ev K te es M fun e M1 => ∃ ds, e = .dat (.tuple ds) ∧ P ds M1) : Iw K (iTup K te) es M P := fun σ G H R en w k =>
  h σ G H _ en w fun e M1 v G1 H1 p d g w1 x => by
    obtain ⟨ds, e, p⟩ := p
    subst e
    cases x with
    | tup s a => exact ⟨_, rfl, ⟨_, w1.gh.t s⟩, k ds M1 G1 H1 _ p d g w1 (yl_tup s a)⟩
theorem iw_r1 {ta : TA} {P : List PyData → MM → Prop} (h : EvA K ta es M fun as M1 => ∃ n : Int, as = [.dat (.int n)] ∧ (-(2 ^ 62) ≤ n ∧ n < 2 ^ 62) ∧ P (rgD 0 n.toNat) M1) : Iw K (iRng1 ta) es M P := fun σ G H R en w k =>
  h σ G H _ en w fun as M1 vs G1 H1 p d g w1 x => by
    obtain ⟨n, e, b, p⟩ := p
    subst e
    cases x with
    | cons x1 x2 =>
      cases x1; cases x2
      exact ⟨n, rfl, b.1, b.2, k _ M1 G1 H1 _ p d g w1 yl_rng⟩
theorem iw_r2 {ta : TA} {P : List PyData → MM → Prop} (h : EvA K ta es M fun as M1 => ∃ m n : Int, as = [.dat (.int m), .dat (.int n)] ∧ (-(2 ^ 62) ≤ m ∧ m < 2 ^ 62 ∧ -(2 ^ 62) ≤ n ∧ n < 2 ^ 62) ∧ P (rgD m (n - m).toNat) M1) : Iw K (iRng2 ta) es M P := fun σ G H R en w k =>
  h σ G H _ en w fun as M1 vs G1 H1 p d g w1 x => by
    obtain ⟨m, n, e, b, p⟩ := p
    subst e
    cases x with
    | cons x1 x2 =>
      cases x1
      cases x2 with
      | cons x3 x4 =>
        cases x3; cases x4
        exact ⟨m, n, rfl, b, k _ M1 G1 H1 _ p d g w1 yl_rng⟩
theorem iw_zip {ta : TA} {P : List PyData → MM → Prop} (h : EvA K ta es M fun as M1 => ∃ ds cs : List PyData, (as = [.dat (.list ds), .dat (.list cs)] ∨ as = [.dat (.tuple ds), .dat (.tuple cs)]) ∧ P (zipD ds cs) M1) : Iw K (RZ.iZipA K ta) es M P := fun σ G H R en w k =>
  h σ G H _ en w fun as M1 vs G1 H1 p d g w1 x => by
    obtain ⟨ds, cs, e, p⟩ := p
    rcases e with e | e
    · subst e
      cases x with
      | cons x1 x2 =>
        cases x2 with
        | cons x3 x4 =>
          cases x4
          cases x1 with
          | lst s a =>
            cases x3 with
            | lst s2 a2 => exact ⟨_, _, _, _, rfl, .inl ⟨SqL.of (w1.gh _ _ s), SqL.of (w1.gh _ _ s2), k _ M1 G1 H1 _ p d g w1 (yl_zip (SqL.of s) a (SqL.of s2) a2)⟩⟩
    · subst e
      cases x with
      | cons x1 x2 =>
        cases x2 with
        | cons x3 x4 =>
          cases x4
          cases x1 with
          | tup s a =>
            cases x3 with
            | tup s2 a2 => exact ⟨_, _, _, _, rfl, .inr ⟨w1.gh.t s, w1.gh.t s2, k _ M1 G1 H1 _ p d g w1 (yl_zipT s a s2 a2)⟩⟩

/-! ### for -/
theorem sj_for {wi : TI} {g : TG} {tb : TS} (h : Iw K wi es M fun ds M1 => ∃ I : Nat → List Ent → MM → Prop, I 0 es M1 ∧
      (∀ k d es2 M2, ds[k]? = some d → I k es2 M2 → Tg K g (.dat d) es2 M2 fun es3 M3 => Sj K (dom M1) tb es3 M3 { nx := I (k + 1), ct := I (k + 1), bk := W.nx, rt := W.rt }) ∧
      (∀ es2 M2, I ds.length es2 M2 → W.nx es2 M2)) : Sj K D0 (tFor wi g tb) es M W := fun G0 H0 σ H D ⟨G, f, en⟩ l =>
  h σ G H _ en f.wf fun ds M1 G1 H1 J p d g1 w1 y => by
    obtain ⟨I, i0, st, fin⟩ := p
    have f1 := f.step g1 w1 d
    have l1 := l.join f1
    refine ⟨fun i m σ H => m = ds.length - i ∧ i ≤ ds.length ∧ ∃ es2 M2, I i es2 M2 ∧ At K G1 (dom M1) H1 es2 M2 σ H, ⟨ds.length, by simp, Nat.zero_le _, es, M1, i0, G1, Far.refl w1, en.up g1.gg⟩, ?_⟩
    rintro i m σ2 H2 ⟨rfl, hi, es2, M2, iv, G2, f2, en2⟩
    have yy := y M2 G2 H2 f2.gr.gg f2.wf
    by_cases c : i < ds.length
    · obtain ⟨q1, q2⟩ := yy.1 i ds[i] (List.getElem?_eq_getElem c)
      refine .inr ⟨q1, fun σ H => ∃ es2 M2, I (i + 1) es2 M2 ∧ At K G1 (dom M1) H1 es2 M2 σ H, fun σ3 H3 n3 => ⟨ds.length - (i + 1), by omega, rfl, c, n3⟩, fun x H3 hy => ?_⟩
      obtain ⟨G3, g3, w3, r3⟩ := q2 x H3 hy
      have f3 := f2.step g3 w3 rfl
      refine st i ds[i] es2 M2 (List.getElem?_eq_getElem c) iv x σ2 G3 H3 _ r3 (en2.up g3.gg) w3 fun es4 M4 σ4 G4 H4 s4 d4 g4 w4 en4 => ?_
      exact s4 G1 H1 σ4 H4 _ ⟨G4, f3.step g4 w4 d4, en4⟩ ⟨fun a b s t z k => ⟨a, b, z, k⟩, l1.rt, fun a b s t z k => l1.nx a b s t z k, fun a b s t z k => ⟨a, b, z, k⟩⟩
    · have e : i = ds.length := by omega
      subst e
      exact .inl ⟨yy.2, l1.nx es2 M2 σ2 H2 (fin es2 M2 iv) ⟨G2, f2, en2⟩⟩
/-- while, by a measure of what is known -/
theorem sj_while {c : TT} {tb : TS} (I : Nat → List Ent → MM → Prop) (n0 : Nat) (h0 : I n0 es M) (h : ∀ n es2 M2, I n es2 M2 → EvT K c es2 M2 fun b M3 => (b = true → Sj K (dom M) tb es2 M3 { nx := fun a b => ∃ m, m < n ∧ I m a b, ct := fun a b => ∃ m, m < n ∧ I m a b, bk := W.nx, rt := W.rt }) ∧ (b = false → W.nx es2 M3)) :
    Sj K D0 (tWhile c tb) es M W := fun G0 H0 σ H D ⟨G, f, en⟩ l => by
  have l1 := l.join f
  refine ⟨fun n σ H2 => ∃ es2 M2, I n es2 M2 ∧ At K G (dom M) H es2 M2 σ H2, ⟨n0, es, M, h0, G, Far.refl f.wf, en⟩, ?_⟩
  rintro n σ2 H2 ⟨es2, M2, iv, G2, f2, en2⟩
  refine h n es2 M2 iv σ2 G2 H2 _ en2 f2.wf fun b M3 G3 H3 p d g w => ?_
  have f3 := f2.step g w d
  cases b with
  | true =>
    refine iteT ⟨fun σ H2 => ∃ m, m < n ∧ ∃ es2 M2, I m es2 M2 ∧ At K G (dom M) H es2 M2 σ H2, fun σ H z => z, ?_⟩
    exact p.1 rfl G H σ2 H3 _ ⟨G3, f3, en2.up g.gg⟩ ⟨fun a b s t ⟨m, z, i⟩ k => ⟨m, z, a, b, i, k⟩, l1.rt, fun a b s t z k => l1.nx a b s t z k, fun a b s t ⟨m, z, i⟩ k => ⟨m, z, a, b, i, k⟩⟩
  | false => exact iteF (l1.nx es2 M3 σ2 H3 (p.2 rfl) ⟨G3, f3, en2.up g.gg⟩)

/-! ### comprehensions -/
def wipeE (es : List Ent) : List Nat → List Ent
  | [] => es
  | v :: vs => (wipeE es vs).set v .no
theorem En.none {σ : L2.St} (h : En K G σ es) : ∀ i, En K G (σ.set i none) (es.set i .no) := by
  induction h with
  | nil => intro i; simpa using En.nil
  | cons a b ih =>
    intro i
    cases i with
    | zero => exact .cons trivial b
    | succ i => exact .cons a (ih i)
theorem En.wipe {σ : L2.St} (h : En K G σ es) : ∀ vs, En K G (L2.wipe σ vs) (wipeE es vs)
  | [] => h
  | v :: vs => (En.wipe h vs).none v
theorem wipe_at (σ : L2.St) (j : Nat) : ∀ vs : List Nat, (L2.wipe σ vs)[j]? = if j ∈ vs ∧ j < σ.length then some none else σ[j]?
  | [] => by simp [L2.wipe]
  | v :: vs => by
    unfold L2.wipe
    rw [List.getElem?_set, wipe_at σ j vs, wipe_length]
    by_cases c : v = j
    · subst c
      by_cases d : v < σ.length
      · simp [d]
      · simp [d]
    · have c' : ¬ j = v := fun z => c z.symm
      simp [c, c']
theorem wipe_set {σ : L2.St} {i : Nat} {o : Option V} {vs : List Nat} (h : i ∈ vs) : L2.wipe (σ.set i o) vs = L2.wipe σ vs := by
  apply List.ext_getElem?
  intro j
  rw [wipe_at, wipe_at, List.length_set, List.getElem?_set]
  by_cases c : i = j
  · subst c
    by_cases d : i < σ.length
    · simp [h, d]
    · simp [d]
  · simp [c]
theorem wipe_twice (σ : L2.St) (vs : List Nat) : L2.wipe (L2.wipe σ vs) vs = L2.wipe σ vs := by
  apply List.ext_getElem?
  intro j
  rw [wipe_at, wipe_at, wipe_length]
  split <;> rfl
/-- a target that sets the block's own names alone -/
def Own (g : TG) (vs : List Nat) : Prop := ∀ x σ H Q, g x σ H Q → g x σ H fun σ2 H2 => L2.wipe σ2 vs = L2.wipe σ vs ∧ Q σ2 H2
theorem own_name {i : Nat} {vs : List Nat} (h : i ∈ vs) : Own (gName i) vs := fun x σ H Q q => ⟨wipe_set h, q⟩
end
theorem own_pair {K : PySem.W.Frag} {i j n : Nat} {vs : List Nat} (h : i ∈ vs) (h2 : j ∈ vs) : Own (gTup K n (gCons (gName i) (gCons (gName j) gNil))) vs := by
  rintro x σ H Q ⟨a, xs, e, s, l, v, r, e2, v2, r2, e3, e4, q⟩
  exact ⟨a, xs, e, s, l, v, r, e2, v2, r2, e3, e4, by rw [wipe_set h2, wipe_set h], q⟩
section
variable {K : PySem.W.Frag} {G0 G G1 H0 H H1 : Hp} {D0 : List Addr} {M M1 : MM} {es : List Ent} {W : DE} {te : TE}
theorem ev_lc {P : Ent → MM → Prop} {wi : TI} {g : TG} {tt : TT} {vs : List Nat} (ow : Own g vs) (h : Iw K wi es M fun ds M1 => ∃ J : Nat → List PyData → MM → Prop, J 0 [] M1 ∧
      (∀ k d acc M2, ds[k]? = some d → J k acc M2 → acc.length < 1000000 ∧ Tg K g (.dat d) (wipeE es vs) M2 fun es3 M3 => EvT K tt es3 M3 fun b M4 =>
        (b = true → Ev K te es3 M4 fun e M5 => ∃ d5, e = .dat d5 ∧ J (k + 1) (acc ++ [d5]) M5) ∧ (b = false → J (k + 1) acc M4)) ∧
      (∀ acc M2, J ds.length acc M2 → P (.dat (.list acc)) M2)) : Ev K (tLc wi g tt te vs) es M P := fun σ G H Q en w r =>
  h σ G H _ en w fun ds M1 G1 H1 J p d g1 w1 y => by
    obtain ⟨I, i0, st, fin⟩ := p
    have r1 := r.go d g1
    intro C hC
    have hC1 : G1 C = none := w1.none_g hC
    -- what stands at a turn: the data grown, the list at C apart
    have start : Grow (dom M1) G1 H1 G1 (upd H1 C (.lst [])) ∧ Wf K G1 M1 (upd H1 C (.lst [])) := by
      have z := w1.newM (xs := []) (ds := []) hC .nil
      exact ⟨z.2, z.1.part (List.sublist_append_left _ _)⟩
    refine ⟨fun i m H2 => m = ds.length - i ∧ i ≤ ds.length ∧ ∃ G2 M2 acc xs, I i acc M2 ∧ dom M2 = dom M1 ∧ Grow (dom M1) G1 H1 G2 H2 ∧ Wf K G2 M2 H2 ∧ H2 C = some (.lst xs) ∧ Rps K G2 xs acc ∧ G2 C = none,
      ⟨ds.length, by simp, Nat.zero_le _, G1, M1, [], [], i0, rfl, start.1, start.2, upd_same, .nil, hC1⟩, ?_⟩
    rintro i m H2 ⟨rfl, hi, G2, M2, acc, xs, iv, d2, g2, w2, hc, hx, n2⟩
    have nC : ∀ {M' : MM}, dom M' = dom M1 → C ∉ dom M' := fun e => by rw [e]; exact w1.none_m hC
    have yy := y M2 G2 H2 g2.gg w2
    by_cases c : i < ds.length
    · obtain ⟨q1, q2⟩ := yy.1 i ds[i] (List.getElem?_eq_getElem c)
      obtain ⟨hl, stp⟩ := st i ds[i] acc M2 (List.getElem?_eq_getElem c) iv
      refine .inr ⟨q1, fun H2 => ∃ G2 M2 acc xs, I (i + 1) acc M2 ∧ dom M2 = dom M1 ∧ Grow (dom M1) G1 H1 G2 H2 ∧ Wf K G2 M2 H2 ∧ H2 C = some (.lst xs) ∧ Rps K G2 xs acc ∧ G2 C = none, fun H3 n3 => ⟨ds.length - (i + 1), by omega, rfl, c, n3⟩, fun x H3 hy => ?_⟩
      obtain ⟨G3, g3, w3, r3⟩ := q2 x H3 hy
      have enw : En K G3 (L2.wipe σ vs) (wipeE es vs) := (((en.up g1.gg).up g2.gg).up g3.gg).wipe vs
      have tw : ∀ {σ2 : L2.St}, L2.wipe σ2 vs = L2.wipe (L2.wipe σ vs) vs → L2.wipe σ2 vs = L2.wipe σ vs := fun e => e.trans (wipe_twice σ vs)
      -- the target, the test, the element
      have main : g x (L2.wipe σ vs) H3 fun σ2 H4 => tt σ2 H4 fun b H5 => if b = true then te σ2 H5 fun y H6 => ∃ acc, H6 C = some (.lst acc) ∧ acc.length < sizeLine ∧ ((∃ G2 M2 acc2 xs, I (i + 1) acc2 M2 ∧ dom M2 = dom M1 ∧ Grow (dom M1) G1 H1 G2 (upd H6 C (.lst (acc ++ [y]))) ∧ Wf K G2 M2 (upd H6 C (.lst (acc ++ [y]))) ∧ (upd H6 C (.lst (acc ++ [y]))) C = some (.lst xs) ∧ Rps K G2 xs acc2 ∧ G2 C = none))
          else (∃ G2 M2 acc xs, I (i + 1) acc M2 ∧ dom M2 = dom M1 ∧ Grow (dom M1) G1 H1 G2 H5 ∧ Wf K G2 M2 H5 ∧ H5 C = some (.lst xs) ∧ Rps K G2 xs acc ∧ G2 C = none) := by
        have c3 := g3.kp C _ hc (nC d2)
        have m3 : G3 C = none := (g3.fr C (by rw [hc]; exact fun z => nomatch z)).trans n2
        refine stp x (L2.wipe σ vs) G3 H3 _ r3 enw w3 fun es4 M4 σ4 G4 H4 s4 d4 g4 w4 en4 => ?_
        have c4 := g4.kp C _ c3 (nC d2)
        have m4 : G4 C = none := (g4.fr C (by rw [c3]; exact fun z => nomatch z)).trans m3
        refine s4 σ4 G4 H4 _ en4 w4 fun b M5 G5 H5 s5 d5 g5 w5 => ?_
        have c5 := g5.kp C _ c4 (nC (d4.trans d2))
        have m5 : G5 C = none := (g5.fr C (by rw [c4]; exact fun z => nomatch z)).trans m4
        have gg5 : Grow (dom M1) G1 H1 G5 H5 := ((g2.trans (d2 ▸ g3)).trans (d2 ▸ g4)).trans ((d4.trans d2) ▸ g5)
        cases b with
        | false => exact iteF ⟨G5, M5, acc, xs, s5.2 rfl, d5.trans (d4.trans d2), gg5, w5, c5, dpsUp (((g3.gg.tr g4.gg).tr g5.gg)) _ _ hx, m5⟩
        | true =>
          refine iteT (s5.1 rfl σ4 G5 H5 _ (en4.up g5.gg) w5 fun e M6 v G6 H6 p6 d6 g6 w6 x6 => ?_)
          obtain ⟨dd, e6, i6⟩ := p6
          subst e6
          have c6 := g6.kp C _ c5 (nC (d5.trans (d4.trans d2)))
          have m6 : G6 C = none := (g6.fr C (by rw [c5]; exact fun z => nomatch z)).trans m5
          have gg6 := gg5.trans ((d5.trans (d4.trans d2)) ▸ g6)
          have hx6 : Rps K G6 xs acc := dpsUp (((g3.gg.tr g4.gg).tr g5.gg).tr g6.gg) _ _ hx
          refine ⟨xs, c6, Nat.lt_trans (by rw [dps_len hx6]; exact hl) (by decide), G6, M6, acc ++ [dd], xs ++ [v], i6, d6.trans (d5.trans (d4.trans d2)), ?_, ?_, upd_same, dps_app hx6 (.cons x6 .nil), m6⟩
          · refine ⟨gg6.gg, gg6.fr, fun a o ea na => ?_, fun a na => ?_⟩
            · rw [upd_ne (ne_of_none ea hC)]; exact gg6.kp a o ea na
            · by_cases ce : a = C
              · subst ce; exact absurd hC na
              · rw [upd_ne ce]; exact gg6.al a na
          · refine ⟨fun a u ea => ?_, fun z hz => ?_, w6.mg, w6.nd⟩
            · rw [upd_ne (ne_of_none ea m6)]; exact w6.gh a u ea
            · refine moUp (Ex.rfl' G6) (upd_ne ?_) (w6.mh z hz)
              rintro rfl
              exact nC (d6.trans (d5.trans (d4.trans d2))) (List.mem_map.mpr ⟨z, hz, rfl⟩)
      have both := ow x (L2.wipe σ vs) H3 _ main
      rw [wipe_twice] at both
      exact both
    · have e : i = ds.length := by omega
      subst e
      refine .inl ⟨yy.2, ?_⟩
      have up := Ex.add (o := HO.lst xs) n2
      refine r1 (.dat (.list acc)) M2 (.ref C) (upd G2 C (.lst xs)) H2 (fin acc M2 iv) d2 ⟨g2.gg.tr up, fun a na => ?_, g2.kp, g2.al⟩ ⟨fun a u ea => ?_, fun z hz => ?_, fun z hz => ?_, w2.nd⟩ (.lst upd_same (dpsUp up _ _ hx))
      · rw [upd_ne (by rintro rfl; exact na hC)]
        exact g2.fr a na
      · by_cases ce : a = C
        · subst ce; rw [upd_same] at ea; rw [hc]; exact ea
        · rw [upd_ne ce] at ea; exact w2.gh a u ea
      · exact moUp up rfl (w2.mh z hz)
      · rw [upd_ne (by rintro rfl; exact nC d2 (List.mem_map.mpr ⟨z, hz, rfl⟩))]
        exact w2.mg z hz
end
end Yw

set_option Elab.async false
set_option linter.all false
set_option maxRecDepth 100000
set_option maxHeartbeats 4000000
/-! Own layer F: the operations, one by one; a def's promise over data. -/
namespace Yw
open PySem PySem.Spec PyProof.Rows L2

/-! ### repr of data -/
def rShow (K : PySem.W.Frag) : List V → Hp → VK → Prop := fun xs H Q => ∃ x d, xs = [x] ∧ L2.Dp K H x d ∧ SeqAt.shaped d = true ∧ d.showable = true ∧ d.shown.length ≤ sizeLine ∧ Q (.str d.shown) H
theorem shaped_noDict {d : PyData} (h : SeqAt.shaped d = true) : d.hasDict = false := by
  unfold SeqAt.shaped at h
  rw [Bool.and_eq_true] at h
  exact PyData.hasDict_of_canLay d h.1
theorem shaped_depth {d : PyData} (h : SeqAt.shaped d = true) : d.depth ≤ 64 := by
  unfold SeqAt.shaped at h
  rw [Bool.and_eq_true] at h
  exact of_decide_eq_true h.2
theorem call_show {X : Cx} (g : X.A.guards = some []) (hu : X.A.units + 66 < cLine) : CallR X (.builtin "repr") (rShow X.K) := by
  intro pins s σ H xs us Q I r h
  obtain ⟨x, d, rfl, hd, sh, sw, sz, q⟩ := h
  cases r with
  | cons r1 r2 =>
    cases r2
    rename_i u
    obtain ⟨as, rd⟩ := Dp.reads I d x u hd r1
    have dep := shaped_depth sh
    cases u with
    | ref a => exact repr_of_reads' rd sw (PyData.noDict_hsm (shaped_noDict sh)) g (by omega) (fun _ _ e => e) (fun h' u tk k => ⟨.str d.shown, H, I.kept k, ⟨u, rfl⟩, q⟩) sz
    | none => cases rd; exact P.repr_of_none ⟨.str _, H, I.tok _, ⟨_, rfl⟩, q⟩
    | bool b => cases rd; exact P.repr_of_bool ⟨.str _, H, I.tok _, ⟨_, rfl⟩, q⟩
    | int i t => cases rd; exact P.repr_of_int (of_decide_eq_true sw) ⟨.str _, H, I.tok _, ⟨_, rfl⟩, q⟩
    | str y t => cases rd; exact P.repr_of_str ⟨.str _, H, I.tok _, ⟨_, rfl⟩, q⟩ sz
    | _ => cases rd
/-- a[i], the list read in place -/
def rIxP (K : PySem.W.Frag) : V → V → Hp → VK → Prop := fun x y H Q => ∃ p xs i v, x = .ref p ∧ y = .int i ∧ SqL K H p xs ∧ 0 ≤ i ∧ i < 2 ^ 63 ∧ xs[i.toNat]? = some v ∧ Q v H
theorem pget_list {X : Cx} : PGet X (rIxP X.K) := by
  intro pins s σ H o i ov iv Q I ro ri h
  obtain ⟨p, xs, j, v, rfl, rfl, hq, h0, h1, hv, q⟩ := h
  cases ro
  obtain ⟨t, rfl⟩ := ri
  obtain ⟨its, r, pl, hz⟩ := I.list hq
  obtain ⟨u, hu, ru⟩ := r.get hv
  exact wpAny_getItem_list pl.isList h0 h1 (by simpa using hu) ⟨v, H, I, ru, q⟩
/-- * of ints as far as the model goes -/
theorem op_mulA {X : Cx} : OpR X (binaryOp .Mult) (rI IntMulOk fun i j => .int (i * j)) := opI fun _ _ _ _ _ _ _ hc q => mul_int q hc
def CDv (_ j : Int) : Prop := j ≠ 0 ∧ j.natAbs.log2 < 9000
theorem op_divA {X : Cx} : OpR X (binaryOp .FloorDiv) (rI CDv fun i j => .int (i.fdiv j)) := opI fun _ _ _ _ _ _ _ hc q => floordiv_int hc.1 q (.inl (PyProof.noPylong_of_log2 hc.2))
theorem mulL {i j : Int} (h : -(2 ^ 64) < i ∧ i < 2 ^ 64) : IntMulOk i j := CMul.ok (.inl h)
theorem mulR {i j : Int} (h : -(2 ^ 64) < j ∧ j < 2 ^ 64) : IntMulOk i j := CMul.ok (.inr h)
theorem mulB {i j : Int} (a b : Nat) (ha : i.natAbs < 2 ^ a) (hb : j.natAbs < 2 ^ b) (h0 : 0 < a) (h1 : 0 < b) (h : a + b ≤ 1000000) : IntMulOk i j := CMulW.ok (wide_mul ha hb h0 h1 h)
theorem divB {j : Int} (b : Nat) (hb : j.natAbs < 2 ^ b) (h0 : 0 < b) (h9 : b ≤ 9000) : j.natAbs.log2 < 9000 := Nat.lt_of_lt_of_le (PySem.Flt.log2_lt_of h0 hb) h9

section
variable {K : PySem.W.Frag} {M Mb : MM} {P : Ent → MM → Prop} {i j : Int}
/-! ### ints -/
theorem o_int {g : Int → Int → Int} (p : P (.dat (.int (g i j))) M) : Op2 K (rI0 fun i j => .int (g i j)) (.dat (.int i)) (.dat (.int j)) M P := fun x y G H Q a b w r => by
  cases a; cases b; exact ⟨i, j, rfl, rfl, r.val w p (.int _)⟩
theorem o_bool {g : Int → Int → Bool} (p : P (.dat (.bool (g i j))) M) : Op2 K (rI0 fun i j => .bl (g i j)) (.dat (.int i)) (.dat (.int j)) M P := fun x y G H Q a b w r => by
  cases a; cases b; exact ⟨i, j, rfl, rfl, r.val w p (.bl _)⟩
theorem o_intC {C : Int → Int → Prop} {g : Int → Int → Int} (c : C i j) (p : P (.dat (.int (g i j))) M) : Op2 K (rI C fun i j => .int (g i j)) (.dat (.int i)) (.dat (.int j)) M P := fun x y G H Q a b w r => by
  cases a; cases b; exact ⟨i, j, rfl, rfl, c, r.val w p (.int _)⟩
theorem o_mul (c : IntMulOk i j) (p : P (.dat (.int (i * j))) M) : Op2 K (rI IntMulOk fun i j => .int (i * j)) (.dat (.int i)) (.dat (.int j)) M P := o_intC (g := fun i j => i * j) c p
theorem o_mod (c : 0 < j) (p : P (.dat (.int (i % j))) M) : Op2 K (rI (fun _ j => 0 < j) fun i j => .int (i % j)) (.dat (.int i)) (.dat (.int j)) M P := o_intC (g := fun i j => i % j) c p
theorem o_div (c : 0 < j) (b : j.natAbs.log2 < 9000) (p : P (.dat (.int (i / j))) M) : Op2 K (rI CDv fun i j => .int (i.fdiv j)) (.dat (.int i)) (.dat (.int j)) M P := o_intC (g := fun i j => i.fdiv j) ⟨by omega, b⟩ (by rw [Int.fdiv_eq_ediv_of_nonneg i (by omega)]; exact p)
theorem o_divA (c : j ≠ 0) (b : j.natAbs.log2 < 9000) (p : P (.dat (.int (i.fdiv j))) M) : Op2 K (rI CDv fun i j => .int (i.fdiv j)) (.dat (.int i)) (.dat (.int j)) M P := o_intC (g := fun i j => i.fdiv j) ⟨c, b⟩ p
theorem o_pow {n : Int} (c : CPow i j) (e : i ^ j.toNat = n) (p : P (.dat (.int n)) M) : Op2 K (rI CPow fun i j => .int (i ^ j.toNat)) (.dat (.int i)) (.dat (.int j)) M P := o_intC (g := fun i j => i ^ j.toNat) c (by rw [e]; exact p)
theorem o_neg (p : P (.dat (.int (-i))) M) : Op1 K (rU fun i => .int (-i)) (.dat (.int i)) M P := fun x G H Q a w r => by
  cases a; exact ⟨i, rfl, r.val w p (.int _)⟩
theorem o_eqI (p : P (.dat (.bool (decide (i = j)))) M) : Op2 K rEq (.dat (.int i)) (.dat (.int j)) M P := fun x y G H Q a b w r => by
  cases a; cases b
  refine ⟨rfl, ?_⟩
  rw [show decide (V.int i = V.int j) = decide (i = j) by simp]
  exact r.val w p (.bl _)
theorem o_neI (p : P (.dat (.bool (!decide (i = j)))) M) : Op2 K rNe (.dat (.int i)) (.dat (.int j)) M P := fun x y G H Q a b w r => by
  cases a; cases b
  refine ⟨rfl, ?_⟩
  rw [show decide (V.int i = V.int j) = decide (i = j) by simp]
  exact r.val w p (.bl _)
theorem o_eqS {a b : Str} (p : P (.dat (.bool (decide (a = b)))) M) : Op2 K rEq (.dat (.str a)) (.dat (.str b)) M P := fun x y G H Q u v w r => by
  cases u; cases v
  refine ⟨rfl, ?_⟩
  rw [show decide (V.str a = V.str b) = decide (a = b) by simp]
  exact r.val w p (.bl _)
theorem o_neS {a b : Str} (p : P (.dat (.bool (!decide (a = b)))) M) : Op2 K rNe (.dat (.str a)) (.dat (.str b)) M P := fun x y G H Q u v w r => by
  cases u; cases v
  refine ⟨rfl, ?_⟩
  rw [show decide (V.str a = V.str b) = decide (a = b) by simp]
  exact r.val w p (.bl _)
theorem o_eqD {d e : PyData} (h1 : SeqAt.shaped d = true) (h2 : SeqAt.shaped e = true) (p : P (.dat (.bool (PyData.eqv d e))) M) : Op2 K (rEqD K) (.dat d) (.dat e) M P := fun x y G H Q a b w r =>
  ⟨d, e, rp_dp w.gh _ _ (SeqAt.canLay_of_shaped h1) a, rp_dp w.gh _ _ (SeqAt.canLay_of_shaped h2) b, h1, h2, r.val w p (.bl _)⟩
theorem o_neD {d e : PyData} (h1 : SeqAt.shaped d = true) (h2 : SeqAt.shaped e = true) (p : P (.dat (.bool (!PyData.eqv d e))) M) : Op2 K (rNeD K) (.dat d) (.dat e) M P := fun x y G H Q a b w r =>
  ⟨d, e, rp_dp w.gh _ _ (SeqAt.canLay_of_shaped h1) a, rp_dp w.gh _ _ (SeqAt.canLay_of_shaped h2) b, h1, h2, r.val w p (.bl _)⟩
theorem o_isN {a : PyData} (p : P (.dat (.bool (match a with | .none => true | _ => false))) M) : Op2 K (fun x y H Q => y = .non ∧ Q (.bl (decide (x = .non))) H) (.dat a) (.dat .none) M P := fun x y G H Q u v w r => by
  cases v
  refine ⟨rfl, ?_⟩
  cases u <;> exact r.val w p (.bl _)
theorem o_notN {a : PyData} (p : P (.dat (.bool (match a with | .none => false | _ => true))) M) : Op2 K (fun x y H Q => y = .non ∧ Q (.bl (!decide (x = .non))) H) (.dat a) (.dat .none) M P := fun x y G H Q u v w r => by
  cases v
  refine ⟨rfl, ?_⟩
  cases u <;> exact r.val w p (.bl _)

/-! ### places -/
theorem rps_atI {G : Hp} {vs : List V} {ds : List PyData} {d : PyData} (h : Rps K G vs ds) (e : atI ds i = some d) : ∃ v, atI vs i = some v ∧ Rp K G v d := by
  unfold atI at e ⊢
  rw [dps_len h]
  cases q : ixN ds.length i with
  | none => rw [q] at e; cases e
  | some k =>
    rw [q] at e
    exact dps_at h e
theorem o_ixL {ds : List PyData} {d : PyData} (e : atI ds i = some d) (p : P (.dat d) M) : Op2 K (rIxL K) (.dat (.list ds)) (.dat (.int i)) M P := fun x y G H Q a b w r => by
  cases b
  cases a with
  | lst s h =>
    obtain ⟨v, hv, rv⟩ := rps_atI h e
    exact ⟨_, _, i, v, rfl, rfl, SqL.of (w.gh _ _ s), hv, r.val w p rv⟩
theorem o_ixT {ds : List PyData} {d : PyData} (e : atI ds i = some d) (p : P (.dat d) M) : Op2 K (rIxT K) (.dat (.tuple ds)) (.dat (.int i)) M P := fun x y G H Q a b w r => by
  cases b
  cases a with
  | tup s h =>
    obtain ⟨v, hv, rv⟩ := rps_atI h e
    exact ⟨_, _, i, v, rfl, rfl, w.gh.t s, hv, r.val w p rv⟩
/-- a place of what may change -/
theorem o_ixM {p : Addr} {ds : List PyData} {d : PyData} (hm : (p, MO.lst ds) ∈ M) (e : atI ds i = some d) (q : P (.dat d) M) : Op2 K (rIxL K) (.ref p) (.dat (.int i)) M P := fun x y G H Q a b w r => by
  cases b
  obtain rfl : x = .ref p := a
  obtain ⟨xs, hx, hd⟩ := w.mh _ hm
  obtain ⟨v, hv, rv⟩ := rps_atI hd e
  exact ⟨_, _, i, v, rfl, rfl, SqL.of hx, hv, r.val w q rv⟩
/-- the part lo .. hi -/
def cutY (ds : List PyData) (lo hi : Option Int) : List PyData := (ds.drop (HT.sIx ds.length 0 lo)).take (HT.sIx ds.length ds.length hi - HT.sIx ds.length 0 lo)
theorem rps_cut {G : Hp} {vs : List V} {ds : List PyData} (lo hi : Option Int) (h : Rps K G vs ds) : Rps K G (cutV vs lo hi) (cutY ds lo hi) := by
  unfold cutV cutY
  rw [dps_len h]
  exact dps_take _ (dps_drop _ h)
theorem sl_L {ds : List PyData} {lo hi : Option Int} (p : P (.dat (.list (cutY ds lo hi))) M) : Sl K (rSlL K) (.dat (.list ds)) lo hi M P := fun x G H Q a w r => by
  cases a with
  | lst s h => exact ⟨_, _, rfl, SqL.of (w.gh _ _ s), r.new w p fun a c => .lst upd_same (dpsUp (Ex.add c) _ _ (rps_cut lo hi h))⟩
theorem cut_all {ds : List PyData} {lo hi : Option Int} (h : HT.sIx ds.length 0 lo = 0 ∧ HT.sIx ds.length ds.length hi = ds.length) : cutY ds lo hi = ds := by
  unfold cutY
  rw [h.1, h.2, List.drop_zero, Nat.sub_zero, List.take_length]
theorem sl_T {ds : List PyData} {lo hi : Option Int} (p : P (.dat (.tuple (cutY ds lo hi))) M) : Sl K (rSlA K) (.dat (.tuple ds)) lo hi M P := fun x G H Q a w r => by
  cases a with
  | tup s h =>
    refine ⟨_, _, rfl, w.gh.t s, fun z => ?_, fun _ => r.new w p fun a c => .tup (.inl (.inl upd_same)) (dpsUp (Ex.add c) _ _ (rps_cut lo hi h))⟩
    rw [dps_len h] at z
    refine r.val w (e := .dat (.tuple (cutY ds lo hi))) p ?_
    rw [cut_all z]
    exact .tup s h
/-- of either kind -/
theorem o_cat {ds es : List PyData} (n : ds.length + es.length ≤ 1000000) (p : P (.dat (.list (ds ++ es))) M) : Op2 K rCat (.dat (.list ds)) (.dat (.list es)) M P := fun x y G H Q a b w r => by
  cases a with
  | lst s h =>
    cases b with
    | lst s2 h2 => exact ⟨_, _, _, _, rfl, rfl, w.gh _ _ s, w.gh _ _ s2, by rw [dps_len h, dps_len h2]; exact Nat.le_trans n (by decide), r.new w p fun a c => .lst upd_same (dps_app (dpsUp (Ex.add c) _ _ h) (dpsUp (Ex.add c) _ _ h2))⟩
theorem o_catT {ds es : List PyData} (n : ds.length + es.length ≤ 1000000) (p : P (.dat (.tuple (ds ++ es))) M) : Op2 K (rCatA K) (.dat (.tuple ds)) (.dat (.tuple es)) M P := fun x y G H Q a b w r => by
  cases a with
  | tup s h =>
    cases b with
    | tup s2 h2 =>
      refine ⟨_, _, _, _, rfl, rfl, w.gh.t s, w.gh.t s2, by rw [dps_len h, dps_len h2]; exact Nat.le_trans n (by decide), fun z => ?_, fun _ z => ?_, fun _ _ => r.new w p fun a c => .tup (.inl (.inl upd_same)) (dps_app (dpsUp (Ex.add c) _ _ h) (dpsUp (Ex.add c) _ _ h2))⟩
      · subst z; cases h
        exact r.val w (e := .dat (.tuple es)) (by simpa using p) (.tup s2 h2)
      · subst z; cases h2
        exact r.val w (e := .dat (.tuple ds)) (by simpa using p) (.tup s h)

/-! ### built-in functions -/
section
variable {as : List Ent}
theorem c_abs (p : P (.dat (.int (if i < 0 then -i else i))) M) : Cb K (fun xs H Q => ∃ i, xs = [.int i] ∧ Q (.int (if i < 0 then -i else i)) H) [.dat (.int i)] M P := fun vs G H Q a w r => by
  cases a with
  | cons x y => cases x; cases y; exact ⟨i, rfl, r.val w p (.int _)⟩
theorem c_int (p : P (.dat (.int i)) M) : Cb K (fun xs H Q => (∃ i, xs = [.int i] ∧ Q (.int i) H) ∨ ∃ k, xs = [.bl k] ∧ Q (.int (if k then 1 else 0)) H) [.dat (.int i)] M P := fun vs G H Q a w r => by
  cases a with
  | cons x y => cases x; cases y; exact .inl ⟨i, rfl, r.val w p (.int _)⟩
theorem c_min2 (p : P (.dat (.int (if j < i then j else i))) M) : Cb K (fun xs H Q => ∃ i j, xs = [.int i, .int j] ∧ Q (.int (if j < i then j else i)) H) [.dat (.int i), .dat (.int j)] M P := fun vs G H Q a w r => by
  cases a with
  | cons x y => cases x; cases y with | cons x y => cases x; cases y; exact ⟨i, j, rfl, r.val w p (.int _)⟩
theorem c_max2 (p : P (.dat (.int (if j > i then j else i))) M) : Cb K (fun xs H Q => ∃ i j, xs = [.int i, .int j] ∧ Q (.int (if j > i then j else i)) H) [.dat (.int i), .dat (.int j)] M P := fun vs G H Q a w r => by
  cases a with
  | cons x y => cases x; cases y with | cons x y => cases x; cases y; exact ⟨i, j, rfl, r.val w p (.int _)⟩
/-- data that is a row of things -/
inductive Sq : PyData → List PyData → Prop
  | lst (ds : List PyData) : Sq (.list ds) ds
  | tup (ds : List PyData) : Sq (.tuple ds) ds
theorem c_len {d : PyData} {ds : List PyData} (s : Sq d ds) (p : P (.dat (.int (ds.length : Nat))) M) : Cb K (fun xs H Q => ∃ p ys, xs = [.ref p] ∧ (SqL K H p ys ∨ SqT K H p ys) ∧ Q (.int ys.length) H) [.dat d] M P := fun vs G H Q a w r => by
  cases a with
  | cons x y =>
    cases y
    cases s with
    | lst =>
      cases x with
      | lst s h => exact ⟨_, _, rfl, .inl (SqL.of (w.gh _ _ s)), by rw [dps_len h]; exact r.val w p (.int _)⟩
    | tup =>
      cases x with
      | tup s h => exact ⟨_, _, rfl, .inr (w.gh.t s), by rw [dps_len h]; exact r.val w p (.int _)⟩
theorem c_list {d : PyData} {ds : List PyData} (s : Sq d ds) (p : P (.dat (.list ds)) M) : Cb K (fun xs H Q => ∃ p ys, xs = [.ref p] ∧ (SqL K H p ys ∨ SqT K H p ys) ∧ ∀ l, H l = none → Q (.ref l) (upd H l (.lst ys))) [.dat d] M P := fun vs G H Q a w r => by
  cases a with
  | cons x y =>
    cases y
    cases s with
    | lst =>
      cases x with
      | lst s h => exact ⟨_, _, rfl, .inl (SqL.of (w.gh _ _ s)), r.new w p fun a c => .lst upd_same (dpsUp (Ex.add c) _ _ h)⟩
    | tup =>
      cases x with
      | tup s h => exact ⟨_, _, rfl, .inr (w.gh.t s), r.new w p fun a c => .lst upd_same (dpsUp (Ex.add c) _ _ h)⟩
theorem c_tuple {d : PyData} {ds : List PyData} (s : Sq d ds) (p : P (.dat (.tuple ds)) M) : Cb K (fun xs H Q => ∃ p ys, xs = [.ref p] ∧ ((SqL K H p ys ∧ ∀ l, H l = none → Q (.ref l) (upd H l (.tup ys))) ∨ (SqT K H p ys ∧ Q (.ref p) H))) [.dat d] M P := fun vs G H Q a w r => by
  cases a with
  | cons x y =>
    cases y
    cases s with
    | lst =>
      cases x with
      | lst s h => exact ⟨_, _, rfl, .inl ⟨SqL.of (w.gh _ _ s), r.new w p fun a c => .tup (.inl (.inl upd_same)) (dpsUp (Ex.add c) _ _ h)⟩⟩
    | tup =>
      cases x with
      | tup s h => exact ⟨_, _, rfl, .inr ⟨w.gh.t s, r.val w p (.tup s h)⟩⟩
theorem c_show {d : PyData} (h1 : SeqAt.shaped d = true) (h2 : d.showable = true) (h3 : d.shown.length ≤ sizeLine) (p : P (.dat (.str d.shown)) M) : Cb K (rShow K) [.dat d] M P := fun vs G H Q a w r => by
  cases a with
  | cons x y => cases y; exact ⟨_, d, rfl, rp_dp w.gh _ _ (SeqAt.canLay_of_shaped h1) x, h1, h2, h3, r.val w p (.str _)⟩
theorem bools_vs {G : Hp} : ∀ {bs : List Bool} {vs : List V}, Rps K G vs (bs.map .bool) → vs = bs.map V.bl
  | [], _, h => by cases h; rfl
  | b :: bs, _, h => by
    cases h with
    | cons a t => cases a; rw [bools_vs t]; rfl
theorem c_all {bs : List Bool} (p : P (.dat (.bool (bs.all id))) M) : Cb K (rAll K) [.dat (.list (bs.map .bool))] M P := fun vs G H Q a w r => by
  cases a with
  | cons x y =>
    cases y
    cases x with
    | lst s h =>
      obtain rfl := bools_vs h
      exact ⟨_, bs, rfl, SqL.of (w.gh _ _ s), r.val w p (.bl _)⟩
end

/-! ### what may change -/
theorem ty_ref {p : Addr} {ds : List PyData} (hm : (p, MO.lst ds) ∈ M) : TyE K "list" (.ref p) M := fun x G H a w => by
  obtain rfl : x = .ref p := a
  obtain ⟨xs, hx, _⟩ := w.mh _ hm
  exact .inl ⟨rfl, xs, SqL.of hx⟩
theorem m_append {Ma : MM} {p : Addr} {ds : List PyData} {d : PyData} (e : M = Ma ++ (p, .lst ds) :: Mb) (n : ds.length ≤ 1000000) (q : P (.dat .none) (Ma ++ (p, .lst (ds ++ [d])) :: Mb)) : Mt K rAppend (.ref p) [.dat d] M P := fun x vs G H Q a b w r => by
  obtain rfl : x = .ref p := a
  subst e
  cases b with
  | cons y z =>
    cases z
    obtain ⟨xs, hx, hd⟩ := w.mh (p, .lst ds) (by simp)
    have c := w.chg (dps_app hd (.cons y .nil))
    exact ⟨p, xs, _, rfl, rfl, hx, by rw [dps_len hd]; exact Nat.lt_of_le_of_lt n (by decide), r _ _ _ _ _ q (by simp [dom]) c.2 c.1 .non⟩
def rInsert : V → List V → Hp → VK → Prop := fun x vs H Q => ∃ (l : Addr) (xs : List V) (i : Int) (y : V), x = .ref l ∧ vs = [.int i, y] ∧ H l = some (.lst xs) ∧ xs.length < sizeLine ∧ 0 ≤ i ∧ i < 2 ^ 63 ∧
    Q .non (upd H l (.lst (xs.take i.toNat ++ [y] ++ xs.drop i.toNat)))
theorem m_insert {Ma : MM} {p : Addr} {ds : List PyData} {d : PyData} (e : M = Ma ++ (p, .lst ds) :: Mb) (n : ds.length ≤ 1000000) (h0 : 0 ≤ i) (h1 : i < 2 ^ 63) (q : P (.dat .none) (Ma ++ (p, .lst (ds.take i.toNat ++ [d] ++ ds.drop i.toNat)) :: Mb)) : Mt K rInsert (.ref p) [.dat (.int i), .dat d] M P := fun x vs G H Q a b w r => by
  obtain rfl : x = .ref p := a
  subst e
  cases b with
  | cons y z =>
    cases y
    cases z with
    | cons y z =>
      cases z
      obtain ⟨xs, hx, hd⟩ := w.mh (p, .lst ds) (by simp)
      have c := w.chg (dps_app (dps_app (dps_take i.toNat hd) (.cons y .nil)) (dps_drop i.toNat hd))
      exact ⟨p, xs, i, _, rfl, rfl, hx, by rw [dps_len hd]; exact Nat.lt_of_le_of_lt n (by decide), h0, h1, r _ _ _ _ _ q (by simp [dom]) c.2 c.1 .non⟩
/-- a[i] = e of what may change -/
theorem tg_sub {es : List Ent} {to ti : TE} {d : PyData} {P : List Ent → MM → Prop} (h : Ev K to es M fun a M1 => Ev K ti es M1 fun b M2 => ∃ Ma Mb p ds i k, a = .ref p ∧ b = .dat (.int i) ∧ M2 = Ma ++ (p, .lst ds) :: Mb ∧ ixN ds.length i = some k ∧ P es (Ma ++ (p, .lst (ds.set k d)) :: Mb)) :
    Tg K (gSub to ti rSetL) (.dat d) es M P := fun v σ G H Q x en w r =>
  h σ G H _ en w fun a M1 o G1 H1 ha e1 g1 w1 xa => ha σ G1 H1 _ (en.up g1.gg) w1 fun b M2 y G2 H2 hb e2 g2 w2 yb => by
    obtain ⟨Ma, Mb, p, ds, i, k, rfl, rfl, rfl, hk, q⟩ := hb
    obtain rfl : o = .ref p := xa
    cases yb
    obtain ⟨xs, hx, hd⟩ := w2.mh (p, .lst ds) (by simp)
    have c := w2.chg (dps_set k hd (dpUp (g1.gg.tr g2.gg) _ _ x))
    have r2 := (r.go e1 g1).go e2 g2
    exact ⟨p, xs, i, k, rfl, rfl, hx, by rw [dps_len hd]; exact hk, r2 _ _ _ _ _ q (by simp [dom]) c.2 c.1 ((en.up g1.gg).up g2.gg)⟩
/-- a[i] += e of ints -/
theorem sj_augS {D0 : List Addr} {W : DE} {es : List Ent} {to ti te : TE} {f : Int → Int → Int} (h : Ev K to es M fun a M1 => Ev K ti es M1 fun b M2 => ∃ p ds i k x, a = .ref p ∧ b = .dat (.int i) ∧ (p, MO.lst ds) ∈ M2 ∧ 0 ≤ i ∧ i < 2 ^ 63 ∧ i.toNat = k ∧ ds[k]? = some (.int x) ∧
      Ev K te es M2 fun c M3 => ∃ Ma Mb y, c = .dat (.int y) ∧ M3 = Ma ++ (p, .lst ds) :: Mb ∧ W.nx es (Ma ++ (p, .lst (ds.set k (.int (f x y)))) :: Mb)) :
    Sj K D0 (tAugS to ti te (rIxP K) (ipI f) rSetL) es M W := fun G0 H0 σ H D ⟨G, fr, en⟩ l =>
  h σ G H _ en fr.wf fun a M1 o G1 H1 ha e1 g1 w1 xa => ha σ G1 H1 _ (en.up g1.gg) w1 fun b M2 z G2 H2 hb e2 g2 w2 yb => by
    obtain ⟨p, ds, i, k, x, rfl, rfl, hm, h0, h1, rfl, hx, hc⟩ := hb
    obtain rfl : o = .ref p := xa
    cases yb
    obtain ⟨xs, hs, hd⟩ := w2.mh _ hm
    obtain ⟨v, hv, rv⟩ := dps_at hd hx
    cases rv
    refine ⟨p, xs, i, .int x, rfl, rfl, SqL.of hs, h0, h1, hv, hc σ G2 H2 _ ((en.up g1.gg).up g2.gg) w2 fun c M3 y G3 H3 h3 e3 g3 w3 x3 => ?_⟩
    obtain ⟨Ma, Mb, y, rfl, rfl, q⟩ := h3
    cases x3
    obtain ⟨ys, hs3, hd3⟩ := w3.mh (p, .lst ds) (by simp)
    have lt : i.toNat < ds.length := (List.getElem?_eq_some_iff.mp hx).1
    have c := w3.chg (dps_set i.toNat hd3 (.int (f x y)))
    refine ⟨x, y, rfl, rfl, p, ys, i, i.toNat, rfl, rfl, hs3, ?_, ?_⟩
    · unfold ixN
      rw [dps_len hd3, if_pos h0, if_pos (by omega)]
    · exact l.nx _ _ _ _ q ⟨G3, (((fr.step g1 w1 e1).step g2 w2 e2).step g3 w3 e3).step c.2 c.1 (by simp [dom]), ((en.up g1.gg).up g2.gg).up g3.gg⟩
/-- x += e of ints -/
theorem sj_aug {D0 : List Addr} {W : DE} {es : List Ent} {i : Nat} {te : TE} {f : Int → Int → Int} {x : Int} (e : es[i]? = some (.dat (.int x))) (h : Ev K te es M fun c M1 => ∃ y, c = .dat (.int y) ∧ W.nx (es.set i (.dat (.int (f x y)))) M1) : Sj K D0 (tAug i te (ipI f)) es M W := fun G0 H0 σ H D ⟨G, fr, en⟩ l => by
  obtain ⟨v, a, b⟩ := en.at e (fun z => nomatch z)
  cases b
  refine ⟨.int x, a, h σ G H _ en fr.wf fun c M1 u G1 H1 p d g w z => ?_⟩
  obtain ⟨y, rfl, q⟩ := p
  cases z
  exact ⟨x, y, rfl, rfl, l.nx _ _ _ _ q ⟨G1, fr.step g w d, (en.up g.gg).put (e := .dat (.int (f x y))) (Rp.int _) i⟩⟩
/-- a, b = x, y -/
theorem sj_par {D0 : List Addr} {W : DE} {es : List Ent} {i j : Nat} {ta : TA} (h : EvA K ta es M fun as M1 => ∃ a b, as = [a, b] ∧ W.nx ((es.set i a).set j b) M1) : Sj K D0 (tPar i j ta) es M W := fun G0 H0 σ H D ⟨G, fr, en⟩ l =>
  h σ G H _ en fr.wf fun as M1 vs G1 H1 p d g w x => by
    obtain ⟨a, b, rfl, q⟩ := p
    cases x with
    | cons x y =>
      cases y with
      | cons y z =>
        cases z
        exact ⟨_, _, rfl, l.nx _ _ _ _ q ⟨G1, fr.step g w d, ((en.up g.gg).put x i).put y j⟩⟩
end

/-! ### promises -/
def SpP (K : PySem.W.Frag) (pre : List PyData → Prop) (post : List PyData → PyData → Prop) : Sp := fun vs H Q _ =>
  ∃ G ds, Ex G H ∧ Rps K G vs ds ∧ pre ds ∧ ∀ d v G1 H1, post ds d → Grow [] G H G1 H1 → Ex G1 H1 → Rp K G1 v d → Q v H1
/-- the drawing bag -/
structure Bag where
  c : Int
  s : Int
  k : Int
  cs : List Int
  ok : cs.length ≤ 63
def Bag.ds (B : Bag) : List PyData := [.int B.c, .int B.s, .int B.k, .list (B.cs.map .int)]
def SpB (K : PySem.W.Frag) (pre : List PyData → Prop) (post : List PyData → PyData → Prop) : Sp := fun vs H Q _ =>
  ∃ G b B v2 ds, vs = .ref b :: v2 ∧ Wf K G [(b, .lst (Bag.ds B))] H ∧ Rps K G v2 ds ∧ pre ds ∧ ∀ d B1 v G1 H1, post ds d → Grow [b] G H G1 H1 → Wf K G1 [(b, .lst (Bag.ds B1))] H1 → Rp K G1 v d → Q v H1
section
variable {K : PySem.W.Frag} {M : MM} {P : Ent → MM → Prop} {pre : List PyData → Prop} {post : List PyData → PyData → Prop}
theorem c_P (ds : List PyData) (h : pre ds) (p : ∀ d, post ds d → P (.dat d) M) : Cb K (fun vs H Q => SpP K pre post vs H Q E0) (ds.map .dat) M P := fun vs G H Q a w r => by
  refine ⟨G, ds, w.gh, EnA.dats a, h, fun d v G1 H1 pd g e x => ?_⟩
  have w1 : Wf K G1 ([] ++ M) H1 := Wf.back (Mh := []) w g ⟨e, fun _ h => absurd h List.not_mem_nil, fun _ h => absurd h List.not_mem_nil, List.nodup_nil⟩ rfl
  exact r (.dat d) M v G1 H1 (p d pd) rfl (g.wide fun _ h => absurd h List.not_mem_nil) w1 x
theorem c_B {b : Addr} {B : Bag} {Mr : MM} (ds : List PyData) (e : M = (b, .lst B.ds) :: Mr) (h : pre ds) (p : ∀ d B1, post ds d → P (.dat d) ((b, .lst (Bag.ds B1)) :: Mr)) : Cb K (fun vs H Q => SpB K pre post vs H Q E0) (.ref b :: ds.map .dat) M P := fun vs G H Q a w r => by
  subst e
  cases a with
  | cons x y =>
    obtain rfl : _ = V.ref b := x
    refine ⟨G, b, B, _, ds, rfl, w.part (by simp), EnA.dats y, h, fun d B1 v G1 H1 pd g w1 x => ?_⟩
    have w2 : Wf K G1 ([(b, .lst B1.ds)] ++ Mr) H1 := Wf.back (Mh := [(b, .lst B.ds)]) w g w1 rfl
    exact r (.dat d) _ v G1 H1 (p d B1 pd) rfl (g.wide fun _ h => by simp [dom] at h ⊢; exact .inl h) w2 x
end
section
variable {P : Program} {w : World} {K : PySem.W.Frag} {mg : Str → Option Value} {base : Heap} {x qual : Str} {st : Stmt} {f : Addr} {fd : FuncData} {N ps : List Str} {k : Nat} {pre : List PyData → Prop} {post : List PyData → PyData → Prop}
theorem lk_fn {G0 : Hp} {D0 : List Addr} {H0 : Hp} {Q : VK} {W : DE} (h : ∀ e M v H, (W.rt e M ∨ (∃ es, W.nx es M ∧ e = .dat .none)) → AtV K G0 D0 H0 e M v H → Q v H) (b : ∀ es M, ¬ W.bk es M) (c : ∀ es M, ¬ W.ct es M) : Lk K G0 D0 H0 W { nx := fun _ H' => Q .non H', rt := Q } :=
  ⟨fun es M σ H p ⟨G, f, _⟩ => h (.dat .none) M .non H (.inr ⟨es, p, rfl⟩) ⟨G, f, .non⟩, fun e M v H p a => h e M v H (.inl p) a, fun es M σ H p _ => absurd p (b es M), fun es M σ H p _ => absurd p (c es M)⟩
theorem rps_start {G : Hp} {vs : List V} {es : List Ent} (h : EnA K G vs es) (N : List Str) (n : Nat) (e : N.length - es.length = n) : En K G (start N vs) (es ++ List.replicate n .no) := by
  have hl : ∀ {vs : List V} {es : List Ent}, EnA K G vs es → vs.length = es.length := by
    intro vs es h
    induction h with
    | nil => rfl
    | cons _ _ ih => exact congrArg (· + 1) ih
  unfold L2.start
  rw [hl h, e]
  exact En.start n h
/-- a def that changes nothing, by its body -/
theorem fnP (F : Fun K x qual st f fd) (S : FnScope N ps (defScope st)) (cnt : ∀ ds, pre ds → ds.length = ps.length) (n : Nat) (hn : N.length - ps.length = n)
    (body : ∀ (cdv : Value) (A : Around) (outer : List Env) (s : Shared) (H : Hp) (E : XK),
      (A.deeper (envOfC qual (defScope st) s.heap.objs.size f cdv)).guards = some [] →
      Room k (A.deeper (envOfC qual (defScope st) s.heap.objs.size f cdv)) →
      ∃ t, PSs (cxOf CX0 P w K mg base N qual (defScope st) f cdv A outer s H E).nox (defBody st) t ∧
        ∀ ds, pre ds → Sj K [] t (ds.map .dat ++ List.replicate n .no) [] { nx := fun _ _ => post ds .none, rt := fun e _ => ∃ d, e = .dat d ∧ post ds d }) :
    FnG P w K mg base (k + 1) f fd ps (SpP K pre post) := by
  refine fnG F S (fun vs H Q E ⟨G, ds, _, r, h, _⟩ => by rw [dps_len r]; exact cnt ds h) fun cdv A outer s H E g hr => ?_
  obtain ⟨t, ht, hs⟩ := body cdv A outer s H E g hr
  refine ⟨t, ht, fun vs Q ⟨G, ds, e, r, h, q⟩ => ?_⟩
  have w0 : Wf K G [] H := ⟨e, fun _ h => absurd h List.not_mem_nil, fun _ h => absurd h List.not_mem_nil, List.nodup_nil⟩
  refine hs ds h G H (start N vs) H _ ⟨G, Far.refl w0, rps_start (EnA.ofDats r) N n (by rw [List.length_map, cnt ds h]; exact hn)⟩ (lk_fn (fun e M v H1 p ⟨G1, f1, x⟩ => ?_) (fun _ _ z => z) fun _ _ z => z)
  have : ∃ d, e = .dat d ∧ post ds d := by
    rcases p with ⟨d, p⟩ | ⟨_, p, rfl⟩
    · exact ⟨d, p⟩
    · exact ⟨_, rfl, p⟩
  obtain ⟨d, rfl, pd⟩ := this
  exact q d v G1 H1 pd f1.gr f1.wf.gh x
end
end Yw

set_option Elab.async false
set_option linter.all false
set_option maxRecDepth 100000
set_option maxHeartbeats 4000000
/-! Own layer G: the defs of a text, their calls by name. -/
namespace Yw
open PySem PySem.Spec PyProof.Rows L2

theorem room66 {k : Nat} {A : Around} (r : Room k A) : A.units + 66 < cLine := by have := r.un; omega
/-- a def of the top as it stands -/
structure Stands (K : PySem.W.Frag) (mg : Str → Option Value) (x : Str) (st : Stmt) (ps : List Str) : Prop where
  ex : ∃ f fd, mg x = some (.ref f) ∧ Fun K x x st f fd ∧ Binds K fd ps []
/-- .. with its promise -/
structure Has (P : Program) (w : World) (K : PySem.W.Frag) (mg : Str → Option Value) (base : Heap) (k : Nat) (x : Str) (ps : List Str) (sp : Sp) : Prop where
  ex : ∃ f fd, mg x = some (.ref f) ∧ PySem.W.keepIn K (.ref f) = true ∧ Binds K fd ps [] ∧ FnG P w K mg base k f fd ps sp
theorem stands {K : PySem.W.Frag} {mg : Str → Option Value} {h : Heap} {x : Str} {st : Stmt} {ps : List Str} (X : K.In h) (G : h.Ns mainGlobals mg) {f : Addr} {od an : Option Addr} {sl : Array (Option Value)} {oc kV dc pm cd ct : Value}
    (a : PySem.W.nsIn K mainGlobals x = some (some (.ref f))) (l : K.lookup f = some ⟨oc, od, .func (PySem.W.fnOf x x (defArgs st) (defBody st) (defScope st) .none kV dc pm an cd ct), sl⟩)
    (c : PySem.W.codeIn K cd x = true) (k : PySem.W.keepIn K (.ref f) = true)
    (b : ∀ (kV doc pm : Value) (an : Option Addr) (cdv ct : Value) (us : List Value), us.length = ps.length → bindArgs (PySem.W.fnOf x x (defArgs st) (defBody st) (defScope st) .none kV doc pm an cdv ct) ⟨us, []⟩ = pure (ps.zip us)) : Stands K mg x st ps :=
  ⟨_, _, PySem.W.mg_of X G a, fun_mk l c k, (fun_mk l c k).binds b⟩
section
variable {X : Cx} {k j : Nat} {sp : Sp} {x : Str} {ps : List Str} {p pos : Pos} {e : Expr} {es : List Expr} {t : TA}
theorem peD (D : Has X.prog X.w X.K X.mg X.base k x ps sp) (g : X.A.guards = some []) (hr : Room j X.A) (h : k ≤ j) (hg : Gl X x) (ha : PA X (e :: es) t)
    (hdb : (x == ("__debug__" : Str)) = false := by decide)
    (he : starEach (e :: es) X.env = (false, eval e X.env) :: starEach es X.env := by rfl)
    (hpl : (backTo pos (starEach es X.env)).any (·.1) = false := by rfl) : PE X (.Call (.Name x p) (e :: es) [] pos) (tGo sp t) := by
  obtain ⟨f, fd, m, kp, b, F⟩ := D.ex
  exact peG F g (hr.mono h) hg m kp b ha hdb he hpl
end
section
variable {P : Program} {w : World} {K : PySem.W.Frag} {mg : Str → Option Value} {base : Heap} {x : Str} {st : Stmt} {N ps : List Str} {k : Nat} {pre : List PyData → Prop} {post : List PyData → PyData → Prop}
theorem hasP (T : Stands K mg x st ps) (S : FnScope N ps (defScope st)) (cnt : ∀ ds, pre ds → ds.length = ps.length) (n : Nat) (hn : N.length - ps.length = n)
    (body : ∀ (f : Addr) (cdv : Value) (A : Around) (outer : List Env) (s : Shared) (H : Hp) (E : XK),
      (A.deeper (envOfC x (defScope st) s.heap.objs.size f cdv)).guards = some [] →
      Room k (A.deeper (envOfC x (defScope st) s.heap.objs.size f cdv)) →
      ∃ t, PSs (cxOf CX0 P w K mg base N x (defScope st) f cdv A outer s H E).nox (defBody st) t ∧
        ∀ ds, pre ds → Sj K [] t (ds.map .dat ++ List.replicate n .no) [] { nx := fun _ _ => post ds .none, rt := fun e _ => ∃ d, e = .dat d ∧ post ds d }) :
    Has P w K mg base (k + 1) x ps (SpP K pre post) := by
  obtain ⟨f, fd, m, F, b⟩ := T.ex
  exact ⟨f, fd, m, F.kp, b, fnP F S cnt n hn (body f)⟩
end
end Yw

set_option Elab.async false
set_option linter.all false
set_option maxRecDepth 100000
set_option maxHeartbeats 4000000
/-! Own layer H: further rules: a list or a tuple walked, isinstance of data, membership, the bag made. -/
namespace Yw
open PySem PySem.Spec PyProof.Rows L2

section
variable {K : PySem.W.Frag} {M : MM} {P : Ent → MM → Prop} {es : List Ent} {te : TE}
/-- of which type data are -/
def tyD : PyData → String
  | .none => "NoneType"
  | .bool _ => "bool"
  | .int _ => "int"
  | .str _ => "str"
  | .list _ => "list"
  | .tuple _ => "tuple"
  | .dict _ => "dict"
theorem tyx_of {G H : Hp} {v : V} {d : PyData} (e : Ex G H) (h : Rp K G v d) : TyX K H v (.type (tyD d)) := by
  cases h with
  | non => exact .base .non
  | bl b => exact .base (.bl b)
  | int i => exact .base (.int i)
  | str x => exact .base (.str x)
  | lst s _ => exact .base (.lst (e _ _ s))
  | tup s _ =>
    rcases s with (s | ⟨o, s⟩) | ⟨o, its, n, l, c, _⟩
    · exact .base (.tup (e _ _ s))
    · exact .fTuple (e _ _ s)
    · exact .kTuple l c
  | dic s _ _ _ =>
    rcases s with s | ⟨o, s⟩
    · exact .base (.dK (e _ _ s))
    · exact .fDict (e _ _ s)
theorem c_isi {d : PyData} {n : String} (b : Bool) (h : kitB (tyD d) n = some b) (p : P (.dat (.bool b)) M) : Cb K (rIsi K) [.dat d, .ty n] M P := fun vs G H Q a w r => by
  cases a with
  | cons x y =>
    cases y with
    | cons y z =>
      cases z
      obtain rfl : _ = V.ty n := y
      exact ⟨_, _, _, _, b, rfl, .ty n, tyx_of w.gh x, kit_ty h, r.val w p (.bl _)⟩
end
/-- the things named, as data -/
inductive Ds : List Ent → List PyData → Prop
  | nil : Ds [] []
  | cons {d : PyData} {es : List Ent} {ds : List PyData} : Ds es ds → Ds (.dat d :: es) (d :: ds)
theorem Ds.eq : ∀ {es : List Ent} {ds : List PyData}, Ds es ds → es = ds.map .dat
  | _, _, .nil => rfl
  | _, _, .cons h => congrArg (_ :: ·) h.eq
section
variable {K : PySem.W.Frag} {M : MM} {P : Ent → MM → Prop} {es : List Ent}
theorem ev_tupD {ta : TA} (h : EvA K ta es M fun as M1 => ∃ ds, Ds as ds ∧ ds.length ≤ 100000 ∧ P (.dat (.tuple ds)) M1) : Ev K (tTup ta) es M P :=
  ev_tup fun σ G H Q en w q => h σ G H Q en w fun as M1 vs G1 H1 ⟨ds, a, b, c⟩ => q as M1 vs G1 H1 ⟨ds, a.eq, b, c⟩
theorem ev_lstD {ta : TA} (h : EvA K ta es M fun as M1 => ∃ ds, Ds as ds ∧ ds.length ≤ 100000 ∧ P (.dat (.list ds)) M1) : Ev K (tLst ta) es M P :=
  ev_lst fun σ G H Q en w q => h σ G H Q en w fun as M1 vs G1 H1 ⟨ds, a, b, c⟩ => q as M1 vs G1 H1 ⟨ds, a.eq, b, c⟩
theorem sj_newD {D0 : List Addr} {W : DE} {i : Nat} {ta : TA} (h : EvA K ta es M fun as M1 => ∃ ds, Ds as ds ∧ ds.length ≤ 100000 ∧ ∀ p, p ∉ D0 → W.nx (es.set i (.ref p)) (M1 ++ [(p, .lst ds)])) : Sj K D0 (tAsg (tLst ta) (gName i)) es M W :=
  sj_new fun σ G H Q en w q => h σ G H Q en w fun as M1 vs G1 H1 ⟨ds, a, b, c⟩ => q as M1 vs G1 H1 ⟨ds, a.eq, b, c⟩
theorem c_PD {pre : List PyData → Prop} {post : List PyData → PyData → Prop} {as : List Ent} {ds : List PyData} (e : Ds as ds) (h : pre ds) (p : ∀ d, post ds d → P (.dat d) M) : Cb K (fun vs H Q => SpP K pre post vs H Q E0) as M P := by
  rw [e.eq]; exact c_P ds h p
end
/-! ### a def that makes the bag from the script -/
def SpN (K : PySem.W.Frag) : Sp := fun vs H Q _ => ∃ (a : Addr) (ns : List Int), vs = [.ref a] ∧ SqL K H a (ns.map V.int) ∧ ns.length ≤ 63 ∧
  ∀ b B G1 H1, Wf K G1 [(b, .lst (Bag.ds B))] H1 → (∀ c ps, H c = some (.tbl ps) → H1 c = some (.tbl ps) ∧ G1 c = none ∧ c ≠ b) → Q (.ref b) H1
/-- the law itself: True comes out, whatever the script -/
def SpLaw (K : PySem.W.Frag) : Sp := fun vs H Q _ => ∃ (a : Addr) (ns : List Int), vs = [.ref a] ∧ SqL K H a (ns.map V.int) ∧ ns.length ≤ 63 ∧ ∀ H', Q (.bl true) H'
theorem cut_ints {xs : List Int} {lo hi : Option Int} : cutV (xs.map V.int) lo hi = ((xs.drop (HT.sIx xs.length 0 lo)).take (HT.sIx xs.length xs.length hi - HT.sIx xs.length 0 lo)).map V.int := by
  unfold cutV
  rw [List.length_map, List.map_take, List.map_drop]
theorem sl_scr {K : PySem.W.Frag} {M : MM} {P : Ent → MM → Prop} {ns : List Int} {lo hi : Option Int} (p : ∀ ms : List Int, ms.length ≤ ns.length → P (.dat (.list (ms.map .int))) M) : Sl K (rSlL K) (.scr ns) lo hi M P := fun x G H Q a w r => by
  obtain ⟨q, rfl, s⟩ := a
  refine ⟨q, _, rfl, w.gh.l s, ?_⟩
  rw [cut_ints]
  exact r.new w (p _ (by rw [List.length_take, List.length_drop]; omega)) fun a c => .lst upd_same (ints_dps _)
/-- the bag taken out of the data -/
theorem wf_bag {K : PySem.W.Frag} {G H : Hp} {v : V} {B : Bag} (w : Wf K G [] H) (h : Rp K G v (.list (Bag.ds B))) : ∃ b G1, v = .ref b ∧ (∀ c, G c = none → G1 c = none) ∧ Wf K G1 [(b, .lst (Bag.ds B))] H := by
  cases h with
  | @lst b xs _ s h =>
    refine ⟨b, fun x => if x = b then none else G x, rfl, (fun c hc => by by_cases z : c = b <;> simp [z, hc]), fun a o e => ?_, fun p hp => ?_, fun p hp => ?_, by simp [dom]⟩
    · by_cases c : a = b
      · rw [if_pos c] at e; cases e
      · rw [if_neg c] at e; exact w.gh a o e
    · obtain rfl := List.mem_singleton.mp hp
      refine ⟨xs, w.gh _ _ s, ?_⟩
      unfold Bag.ds at h ⊢
      cases h with
      | cons h0 h =>
        cases h with
        | cons h1 h =>
          cases h with
          | cons h2 h =>
            cases h with
            | cons h3 h =>
              cases h
              cases h0; cases h1; cases h2
              refine .cons (.int _) (.cons (.int _) (.cons (.int _) (.cons ?_ .nil)))
              cases h3 with
              | @lst c ys _ s2 h3 =>
                have ey := dps_ints h3
                have ne : c ≠ b := by
                  rintro rfl
                  rw [s] at s2
                  have e := HO.lst.inj (Option.some.inj s2)
                  rw [ey] at e
                  have z : V.ref c ∈ B.cs.map V.int := by rw [← e]; simp
                  obtain ⟨i, _, hi⟩ := List.mem_map.mp z
                  cases hi
                refine .lst (xs := ys) ?_ (ey ▸ ints_dps B.cs)
                show (if c = b then none else G c) = _
                rw [if_neg ne]; exact s2
    · obtain rfl := List.mem_singleton.mp hp
      exact if_pos rfl
section
variable {P : Program} {w : World} {K : PySem.W.Frag} {mg : Str → Option Value} {base : Heap} {x : Str} {st : Stmt} {N : List Str} {k : Nat} {sc : Str}
theorem hasN (T : Stands K mg x st [sc]) (S : FnScope N [sc] (defScope st)) (n : Nat) (hn : N.length - 1 = n)
    (body : ∀ (f : Addr) (cdv : Value) (A : Around) (outer : List Env) (s : Shared) (H : Hp) (E : XK),
      (A.deeper (envOfC x (defScope st) s.heap.objs.size f cdv)).guards = some [] →
      Room k (A.deeper (envOfC x (defScope st) s.heap.objs.size f cdv)) →
      ∃ t, PSs (cxOf CX0 P w K mg base N x (defScope st) f cdv A outer s H E).nox (defBody st) t ∧
        ∀ ns : List Int, ns.length ≤ 63 → Sj K [] t (.scr ns :: List.replicate n .no) [] { nx := fun _ _ => False, rt := fun e _ => ∃ B, e = .dat (.list (Bag.ds B)) }) :
    Has P w K mg base (k + 1) x [sc] (SpN K) := by
  obtain ⟨f, fd, m, F, b⟩ := T.ex
  refine ⟨f, fd, m, F.kp, b, fnG F S (fun vs H Q E ⟨a, ns, e, _⟩ => by rw [e]; rfl) fun cdv A outer s H E g hr => ?_⟩
  obtain ⟨t, ht, hs⟩ := body f cdv A outer s H E g hr
  refine ⟨t, ht, fun vs Q ⟨a, ns, e, h, h63, q⟩ => ?_⟩
  subst e
  obtain ⟨G0, hG0⟩ : ∃ G0 : Hp, G0 = fun c => match H c with
    | some (.tbl _) => none
    | o => o := ⟨_, rfl⟩
  have gx : Ex G0 H := fun c o e => by
    rw [hG0] at e
    dsimp only at e
    split at e
    · cases e
    · exact e
  have gt : ∀ c ps, H c = some (.tbl ps) → G0 c = none := fun c ps e => by
    rw [hG0]
    dsimp only
    rw [e]
  have gs : SqL K G0 a (ns.map V.int) := by
    rcases h with (h | ⟨o, h⟩) | h
    · exact .inl (.inl (by rw [hG0]; dsimp only; rw [h]))
    · exact .inl (.inr ⟨o, by rw [hG0]; dsimp only; rw [h]⟩)
    · exact .inr h
  have w0 : Wf K G0 [] H := ⟨gx, fun _ h => absurd h List.not_mem_nil, fun _ h => absurd h List.not_mem_nil, List.nodup_nil⟩
  refine hs ns h63 G0 H (L2.start N _) H _ ⟨G0, Far.refl w0, rps_start (es := [.scr ns]) (.cons ⟨a, rfl, gs⟩ .nil) N n hn⟩ (lk_fn (fun e M v H1 p ⟨G1, f1, y⟩ => ?_) (fun _ _ z => z) fun _ _ z => z)
  rcases p with ⟨B, rfl⟩ | ⟨_, z, _⟩
  · obtain ⟨b, G2, rfl, nn, w2⟩ := wf_bag (f1.wf.part (List.nil_sublist _)) y
    refine q b B G2 H1 w2 fun c ps hc => ?_
    have k1 := f1.gr.kp c _ hc (fun z => nomatch z)
    refine ⟨k1, nn c ((f1.gr.fr c (by rw [hc]; exact fun z => nomatch z)).trans (gt c ps hc)), ?_⟩
    rintro rfl
    obtain ⟨xs, e, _⟩ := w2.mh (c, .lst (Bag.ds B)) (by simp)
    rw [k1] at e
    cases e
  · exact z.elim
end
end Yw

set_option Elab.async false
set_option linter.all false
set_option maxRecDepth 100000
set_option maxHeartbeats 4000000
/-! Own mathematics: fractions by two whole numbers. -/
namespace Yw
abbrev fr (a b : Int) : PySem.PyData := .tuple [.int a, .int b]
def Fr (a b : Int) : Prop := 0 < b ∧ Int.gcd a b = 1
def sg (n d : Int) : Int := if d < 0 then -(Int.gcd n d : Int) else (Int.gcd n d : Int)
def redN (n d : Int) : Int := n.fdiv (sg n d)
def redD (n d : Int) : Int := d.fdiv (sg n d)
theorem gcd_pos {n d : Int} (h : d ≠ 0) : 0 < Int.gcd n d := Nat.pos_of_ne_zero fun z => h (Int.gcd_eq_zero_iff.mp z).2
theorem sg_left (n d : Int) : sg n d ∣ n := by
  unfold sg
  split
  · exact Int.neg_dvd.mpr (Int.gcd_dvd_left n d)
  · exact Int.gcd_dvd_left n d
theorem sg_right (n d : Int) : sg n d ∣ d := by
  unfold sg
  split
  · exact Int.neg_dvd.mpr (Int.gcd_dvd_right n d)
  · exact Int.gcd_dvd_right n d
theorem sg_abs (n d : Int) : (sg n d).natAbs = Int.gcd n d := by
  unfold sg
  split <;> simp
theorem sg_ne {n d : Int} (h : d ≠ 0) : sg n d ≠ 0 := fun z => by
  have e := sg_abs n d
  rw [z, Int.natAbs_zero] at e
  have g := gcd_pos (n := n) h
  omega
theorem redN_mul (n d : Int) : redN n d * sg n d = n := Int.fdiv_mul_cancel (sg_left n d)
theorem redD_mul (n d : Int) : redD n d * sg n d = d := Int.fdiv_mul_cancel (sg_right n d)
theorem redD_pos {n d : Int} (h : d ≠ 0) : 0 < redD n d := by
  have e := redD_mul n d
  have g := gcd_pos (n := n) h
  unfold sg at e
  split at e
  · rename_i neg
    by_cases c : 0 < redD n d
    · exact c
    · have : 0 ≤ redD n d * -(Int.gcd n d : Int) := Int.mul_nonneg_of_nonpos_of_nonpos (by omega) (by omega)
      omega
  · by_cases c : 0 < redD n d
    · exact c
    · have : redD n d * (Int.gcd n d : Int) ≤ 0 := Int.mul_nonpos_of_nonpos_of_nonneg (by omega) (by omega)
      omega
theorem red_cop {n d : Int} (h : d ≠ 0) : Int.gcd (redN n d) (redD n d) = 1 := by
  have g := gcd_pos (n := n) h
  have e : Int.gcd (sg n d * redN n d) (sg n d * redD n d) = (sg n d).natAbs * Int.gcd (redN n d) (redD n d) := Int.gcd_mul_left _ _ _
  rw [Int.mul_comm, redN_mul, Int.mul_comm, redD_mul, sg_abs] at e
  exact (Nat.eq_of_mul_eq_mul_left g (by rw [Nat.mul_one]; exact e)).symm
theorem red_fr {n d : Int} (h : d ≠ 0) : Fr (redN n d) (redD n d) := ⟨redD_pos h, red_cop h⟩
theorem red_eq (n d : Int) : redN n d * d = n * redD n d := by
  have a := redN_mul n d
  have b := redD_mul n d
  calc redN n d * d = redN n d * (redD n d * sg n d) := by rw [b]
    _ = (redN n d * sg n d) * redD n d := by rw [Int.mul_assoc, Int.mul_comm (redD n d)]
    _ = n * redD n d := by rw [a]
theorem abs_le_of_mul {a g n : Int} (e : a * g = n) (h : g ≠ 0) : a.natAbs ≤ n.natAbs := by
  rw [← e, Int.natAbs_mul]
  exact Nat.le_mul_of_pos_right _ (Int.natAbs_pos.mpr h)
theorem redN_le {n d : Int} (h : d ≠ 0) : (redN n d).natAbs ≤ n.natAbs := abs_le_of_mul (redN_mul n d) (sg_ne h)
theorem redD_le {n d : Int} (h : d ≠ 0) : (redD n d).natAbs ≤ d.natAbs := abs_le_of_mul (redD_mul n d) (sg_ne h)
theorem fr_dvd {x y u v : Int} (h : Int.gcd x y = 1) (e : x * v = u * y) : y.natAbs ∣ v.natAbs := by
  have c : y.natAbs.Coprime x.natAbs := by
    have : Nat.gcd x.natAbs y.natAbs = 1 := h
    exact Nat.Coprime.symm this
  refine c.dvd_of_dvd_mul_left ?_
  rw [← Int.natAbs_mul, e, Int.natAbs_mul]
  exact Nat.dvd_mul_left _ _
theorem fr_uniq {x y u v : Int} (h : Fr x y) (k : Fr u v) (e : x * v = u * y) : x = u ∧ y = v := by
  have a := fr_dvd h.2 e
  have b := fr_dvd k.2 (show u * y = x * v from e.symm)
  have c : y.natAbs = v.natAbs := Nat.dvd_antisymm a b
  have hy := h.1
  have hv := k.1
  have d : y = v := by omega
  subst d
  exact ⟨Int.eq_of_mul_eq_mul_right (by omega) e, rfl⟩
theorem red_uniq {x y n d : Int} (h : Fr x y) (hd : d ≠ 0) (e : x * d = n * y) : x = redN n d ∧ y = redD n d := by
  refine fr_uniq h (red_fr hd) ?_
  have r := red_eq n d
  have : d * (x * redD n d) = d * (redN n d * y) := by
    calc d * (x * redD n d) = (x * d) * redD n d := by rw [Int.mul_left_comm, ← Int.mul_assoc]
      _ = n * y * redD n d := by rw [e]
      _ = (n * redD n d) * y := by rw [Int.mul_right_comm]
      _ = redN n d * d * y := by rw [r]
      _ = d * (redN n d * y) := by rw [Int.mul_comm (redN n d) d, Int.mul_assoc]
  exact Int.eq_of_mul_eq_mul_left hd this
end Yw

set_option Elab.async false
set_option linter.all false
set_option maxRecDepth 100000
set_option maxHeartbeats 4000000
/-! Own layer I: promises as pairs (arguments, what is told). -/
namespace Yw
open PySem PySem.Spec PyProof.Rows L2
abbrev RR := List PyData → (PyData → Prop) → Prop
def SpQ (K : PySem.W.Frag) (R : RR) : Sp := fun vs H Q _ =>
  ∃ G ds po, Ex G H ∧ Rps K G vs ds ∧ R ds po ∧ ∀ d v G1 H1, po d → Grow [] G H G1 H1 → Ex G1 H1 → Rp K G1 v d → Q v H1
def SpD (K : PySem.W.Frag) (R : RR) : Sp := fun vs H Q _ =>
  ∃ G b B v2 ds po, vs = .ref b :: v2 ∧ Wf K G [(b, .lst (Bag.ds B))] H ∧ Rps K G v2 ds ∧ R ds po ∧ ∀ d B1 v G1 H1, po d → Grow [b] G H G1 H1 → Wf K G1 [(b, .lst (Bag.ds B1))] H1 → Rp K G1 v d → Q v H1
section
variable {K : PySem.W.Frag} {M : MM} {P : Ent → MM → Prop} {R : RR} {as : List Ent} {ds : List PyData}
theorem c_Q (e : Ds as ds) (po : PyData → Prop) (h : R ds po) (p : ∀ d, po d → P (.dat d) M) : Cb K (fun vs H Q => SpQ K R vs H Q E0) as M P := fun vs G H Q a w r => by
  rw [e.eq] at a
  obtain ⟨G0, ds0, e0, r0, h0, k⟩ := c_P (K := K) (M := M) (P := P) (pre := fun x => x = ds) (post := fun _ => po) ds rfl p vs G H Q a w r
  subst h0
  exact ⟨G0, ds0, po, e0, r0, h, k⟩
theorem c_D {b : Addr} {B : Bag} {Mr : MM} (e : Ds as ds) (po : PyData → Prop) (h : R ds po) (p : ∀ d B1, po d → P (.dat d) ((b, .lst (Bag.ds B1)) :: Mr)) : Cb K (fun vs H Q => SpD K R vs H Q E0) (.ref b :: as) ((b, .lst B.ds) :: Mr) P := fun vs G H Q a w r => by
  rw [e.eq] at a
  obtain ⟨G0, b0, B0, v2, ds0, ev, w0, r0, h0, k⟩ := c_B (K := K) (P := P) (pre := fun x => x = ds) (post := fun _ => po) ds rfl rfl p vs G H Q a w r
  subst h0
  exact ⟨G0, b0, B0, v2, ds0, po, ev, w0, r0, h, k⟩
end
section
variable {P : Program} {w : World} {K : PySem.W.Frag} {mg : Str → Option Value} {base : Heap} {x : Str} {st : Stmt} {N ps : List Str} {k : Nat} {R : RR}
theorem hasQ (T : Stands K mg x st ps) (S : FnScope N ps (defScope st)) (cnt : ∀ ds po, R ds po → ds.length = ps.length) (n : Nat) (hn : N.length - ps.length = n)
    (body : ∀ (f : Addr) (cdv : Value) (A : Around) (outer : List Env) (s : Shared) (H : Hp) (E : XK),
      (A.deeper (envOfC x (defScope st) s.heap.objs.size f cdv)).guards = some [] →
      Room k (A.deeper (envOfC x (defScope st) s.heap.objs.size f cdv)) →
      ∃ t, PSs (cxOf CX0 P w K mg base N x (defScope st) f cdv A outer s H E).nox (defBody st) t ∧
        ∀ ds po, R ds po → Sj K [] t (ds.map .dat ++ List.replicate n .no) [] { nx := fun _ _ => po .none, rt := fun e _ => ∃ d, e = .dat d ∧ po d }) :
    Has P w K mg base (k + 1) x ps (SpQ K R) := by
  obtain ⟨f, fd, m, F, b⟩ := T.ex
  refine ⟨f, fd, m, F.kp, b, fnG F S (fun vs H Q E ⟨G, ds, po, _, r, h, _⟩ => by rw [dps_len r]; exact cnt ds po h) fun cdv A outer s H E g hr => ?_⟩
  obtain ⟨t, ht, hs⟩ := body f cdv A outer s H E g hr
  refine ⟨t, ht, fun vs Q ⟨G, ds, po, e, r, h, q⟩ => ?_⟩
  have w0 : Wf K G [] H := ⟨e, fun _ h => absurd h List.not_mem_nil, fun _ h => absurd h List.not_mem_nil, List.nodup_nil⟩
  refine hs ds po h G H (L2.start N vs) H _ ⟨G, Far.refl w0, rps_start (EnA.ofDats r) N n (by rw [List.length_map, cnt ds po h]; exact hn)⟩ (lk_fn (fun e M v H1 p ⟨G1, f1, x⟩ => ?_) (fun _ _ z => z) fun _ _ z => z)
  have : ∃ d, e = .dat d ∧ po d := by
    rcases p with ⟨d, p⟩ | ⟨_, p, rfl⟩
    · exact ⟨d, p⟩
    · exact ⟨_, rfl, p⟩
  obtain ⟨d, rfl, pd⟩ := this
  exact q d v G1 H1 pd f1.gr f1.wf.gh x
theorem hasD (T : Stands K mg x st ps) (S : FnScope N ps (defScope st)) (cnt : ∀ ds po, R ds po → ds.length + 1 = ps.length) (n : Nat) (hn : N.length - ps.length = n)
    (body : ∀ (f : Addr) (cdv : Value) (A : Around) (outer : List Env) (s : Shared) (H : Hp) (E : XK),
      (A.deeper (envOfC x (defScope st) s.heap.objs.size f cdv)).guards = some [] →
      Room k (A.deeper (envOfC x (defScope st) s.heap.objs.size f cdv)) →
      ∃ t, PSs (cxOf CX0 P w K mg base N x (defScope st) f cdv A outer s H E).nox (defBody st) t ∧
        ∀ b B ds po, R ds po → Sj K [b] t (.ref b :: ds.map .dat ++ List.replicate n .no) [(b, .lst (Bag.ds B))] { nx := fun _ _ => False, rt := fun e M => ∃ d, e = .dat d ∧ (∃ B1 Mr, M = (b, .lst (Bag.ds B1)) :: Mr) ∧ po d }) :
    Has P w K mg base (k + 1) x ps (SpD K R) := by
  obtain ⟨f, fd, m, F, b⟩ := T.ex
  refine ⟨f, fd, m, F.kp, b, fnG F S (fun vs H Q E ⟨G, b, B, v2, ds, po, e, _, r, h, _⟩ => by rw [e, List.length_cons, dps_len r]; exact cnt ds po h) fun cdv A outer s H E g hr => ?_⟩
  obtain ⟨t, ht, hs⟩ := body f cdv A outer s H E g hr
  refine ⟨t, ht, fun vs Q ⟨G, b, B, v2, ds, po, e, w0, r, h, q⟩ => ?_⟩
  subst e
  refine hs b B ds po h G H (L2.start N _) H _ ⟨G, Far.refl w0, rps_start (es := .ref b :: ds.map .dat) (.cons rfl (EnA.ofDats r)) N n (by rw [List.length_cons, List.length_map, cnt ds po h]; exact hn)⟩ (lk_fn (fun e M v H1 p ⟨G1, f1, x⟩ => ?_) (fun _ _ z => z) fun _ _ z => z)
  rcases p with ⟨d, rfl, ⟨B1, Mr, rfl⟩, pd⟩ | ⟨_, z, _⟩
  · exact q d B1 v G1 H1 pd f1.gr (f1.wf.part (by simp)) x
  · exact z.elim
end
section
variable {K : PySem.W.Frag} {M : MM} {P : Ent → MM → Prop} {i : Int}
end
/-! ### how long a text of data is -/
structure Wt (w dp : Nat) (d : PyData) : Prop where
  lay : d.canLay0 = true
  dep : d.depth ≤ dp
  sho : d.showable = true
  len : d.shown.length ≤ w
theorem Wt.up {w dp w2 dp2 : Nat} {d : PyData} (h : Wt w dp d) (a : w ≤ w2) (b : dp ≤ dp2) : Wt w2 dp2 d := ⟨h.lay, Nat.le_trans h.dep b, h.sho, Nat.le_trans h.len a⟩
theorem Wt.shaped {w dp : Nat} {d : PyData} (h : Wt w dp d) (b : dp ≤ 64) : SeqAt.shaped d = true := by
  unfold SeqAt.shaped
  rw [h.lay, decide_eq_true (Nat.le_trans h.dep b)]
  rfl
theorem Wt.int {a : Int} (h : a.natAbs.log2 < 1920) : Wt 1921 0 (.int a) := ⟨by simp [PyData.canLay0], by simp [PyData.depth], by simpa [PyData.showable] using h, by
  simp only [PyData.shown]
  exact PyProof.Rows.int_text_len_1921 h⟩
theorem Wt.intB {a : Int} (h : a.natAbs < 2 ^ 1920) : Wt 1921 0 (.int a) := .int (PySem.Flt.log2_lt_of (by decide) h)
theorem Wt.bool (b : Bool) : Wt 5 0 (.bool b) := ⟨by simp [PyData.canLay0], by simp [PyData.depth], by simp [PyData.showable], by
  simp only [PyData.shown]
  cases b <;> decide⟩
theorem Wt.non : Wt 4 0 .none := ⟨by simp [PyData.canLay0], by simp [PyData.depth], by simp [PyData.showable], by
  simp only [PyData.shown]
  decide⟩
theorem all_lay : ∀ {ds : List PyData}, (∀ d ∈ ds, PyData.canLay0 d = true) → PyData.canLayAll0 ds = true
  | [], _ => by simp [PyData.canLayAll0]
  | d :: ds, h => by
    simp only [PyData.canLayAll0, Bool.and_eq_true]
    exact ⟨h d (by simp), all_lay fun e he => h e (by simp [he])⟩
theorem all_dep {n : Nat} : ∀ {ds : List PyData}, (∀ d ∈ ds, PyData.depth d ≤ n) → PyData.depthAll ds ≤ n
  | [], _ => by simp [PyData.depthAll]
  | d :: ds, h => by
    simp only [PyData.depthAll]
    exact Nat.max_le.mpr ⟨h d (by simp), all_dep fun e he => h e (by simp [he])⟩
theorem all_sho : ∀ {ds : List PyData}, (∀ d ∈ ds, PyData.showable d = true) → PyData.showableAll ds = true
  | [], _ => by simp [PyData.showableAll]
  | d :: ds, h => by
    simp only [PyData.showableAll, Bool.and_eq_true]
    exact ⟨h d (by simp), all_sho fun e he => h e (by simp [he])⟩
theorem all_len {w : Nat} : ∀ {ds : List PyData}, (∀ d ∈ ds, (PyData.shown d).length ≤ w) → ((PyData.shownAll ds).map (·.length)).sum ≤ ds.length * w ∧ (PyData.shownAll ds).length = ds.length
  | [], _ => by simp [PyData.shownAll]
  | d :: ds, h => by
    have ih := all_len (w := w) (ds := ds) fun e he => h e (by simp [he])
    have h0 := h d (by simp)
    simp only [PyData.shownAll, List.map_cons, List.sum_cons, List.length_cons]
    refine ⟨?_, by omega⟩
    rw [Nat.add_mul]
    omega
theorem Wt.list {w dp n : Nat} {ds : List PyData} (h : ∀ d ∈ ds, Wt w dp d) (hn : ds.length ≤ n) : Wt (n * (w + 2) + 3) (dp + 1) (.list ds) := by
  refine ⟨by simpa [PyData.canLay0] using all_lay fun d hd => (h d hd).lay, ?_, by simpa [PyData.showable] using all_sho fun d hd => (h d hd).sho, ?_⟩
  · simp only [PyData.depth]
    exact Nat.succ_le_succ (all_dep fun d hd => (h d hd).dep)
  · simp only [PyData.shown]
    have a := all_len (w := w) fun d hd => (h d hd).len
    have b := listText_len_le (PyData.shownAll ds)
    have c : ds.length * w ≤ n * w := Nat.mul_le_mul_right w hn
    rw [Nat.mul_add]
    omega
theorem Wt.tup {w dp n : Nat} {ds : List PyData} (h : ∀ d ∈ ds, Wt w dp d) (hn : ds.length ≤ n) : Wt (n * (w + 2) + 3) (dp + 1) (.tuple ds) := by
  refine ⟨by simpa [PyData.canLay0] using all_lay fun d hd => (h d hd).lay, ?_, by simpa [PyData.showable] using all_sho fun d hd => (h d hd).sho, ?_⟩
  · simp only [PyData.depth]
    exact Nat.succ_le_succ (all_dep fun d hd => (h d hd).dep)
  · simp only [PyData.shown]
    have a := all_len (w := w) fun d hd => (h d hd).len
    have b := tupleText_len_le (PyData.shownAll ds)
    have c : ds.length * w ≤ n * w := Nat.mul_le_mul_right w hn
    rw [Nat.mul_add]
    omega
theorem size_ok {w : Nat} {d : PyData} (h : d.shown.length ≤ w) (e : w ≤ 16000000) : d.shown.length ≤ sizeLine := Nat.le_trans h (Nat.le_trans e (by decide))
theorem eqv_self {w dp : Nat} {d : PyData} (h : Wt w dp d) : PyData.eqv d d = true := SeqAt.eqv_refl d h.lay
end Yw

set_option Elab.async false
set_option linter.all false
set_option maxRecDepth 100000
set_option maxHeartbeats 4000000
/-! Own layer J: an object that may change, lent or made fast. -/
namespace Yw
open PySem PySem.Spec PyProof.Rows L2
inductive Sub (p : Addr) (d : PyData) : List Ent → List Ent → Prop
  | nil : Sub p d [] []
  | hit {es fs : List Ent} : Sub p d es fs → Sub p d (.ref p :: es) (.dat d :: fs)
  | keep {e : Ent} {es fs : List Ent} : Sub p d es fs → Sub p d (e :: es) (e :: fs)
section
variable {K : PySem.W.Frag} {D0 : List Addr} {M : MM} {es fs : List Ent} {W : DE}
theorem En.sub {G G1 : Hp} {σ : L2.St} {p : Addr} {xs : List V} {ds : List PyData} (s : Sub p (.list ds) es fs) (x : Ex G G1) (hp : G1 p = some (.lst xs)) (hd : Rps K G1 xs ds) (h : En K G σ es) : En K G1 σ fs := by
  induction s generalizing σ with
  | nil => cases h; exact .nil
  | hit _ ih =>
    cases h with
    | @cons o _ _ _ a b =>
      refine .cons ?_ (ih b)
      cases o with
      | none => exact a.elim
      | some v =>
        obtain rfl : v = .ref p := a
        exact .lst hp hd
  | keep _ ih => cases h with | cons a b => exact .cons (a.up x) (ih b)
/-- a local object is made fast -/
theorem sj_fast {ts : TS} {p : Addr} {ds : List PyData} (Ma Mb : MM) (e : M = Ma ++ (p, .lst ds) :: Mb) (np : p ∉ D0) (s : Sub p (.list ds) es fs) (h : Sj K D0 ts fs (Ma ++ Mb) W) : Sj K D0 ts es M W := by
  intro G0 H0 σ H D ⟨G, f, en⟩ l
  subst e
  obtain ⟨xs, hx, hd⟩ := f.wf.mh (p, .lst ds) (by simp)
  have gp : G p = none := f.wf.mg (p, .lst ds) (by simp)
  have h0 : H0 p = none := (f.own p (by simp [dom])).resolve_left np
  have nd := f.wf.nd
  have sub : (Ma ++ Mb).Sublist (Ma ++ (p, MO.lst ds) :: Mb) := List.Sublist.append_left (List.sublist_cons_self _ _) _
  have out : ∀ x ∈ Ma ++ Mb, x.1 ≠ p := by
    intro x hx c
    unfold dom at nd
    rw [List.map_append, List.map_cons] at nd
    have ap := List.nodup_append.mp nd
    rcases List.mem_append.mp hx with q | q
    · exact ap.2.2 _ (List.mem_map.mpr ⟨x, q, rfl⟩) p (by simp) c
    · exact (List.nodup_cons.mp ap.2.1).1 (c ▸ List.mem_map.mpr ⟨x, q, rfl⟩)
  have w2 : Wf K (upd G p (.lst xs)) (Ma ++ Mb) H := by
    refine ⟨fun a u ea => ?_, fun x hx => ?_, fun x hx => ?_, nd.sublist (sub.map _)⟩
    · by_cases c : a = p
      · subst c; rw [upd_same] at ea; rw [hx]; exact ea
      · rw [upd_ne c] at ea; exact f.wf.gh a u ea
    · exact moUp (Ex.add gp) rfl (f.wf.mh x (sub.subset hx))
    · rw [upd_ne (out x hx)]; exact f.wf.mg x (sub.subset hx)
  refine h G0 H0 σ H D ⟨upd G p (.lst xs), ⟨⟨f.gr.gg.tr (Ex.add gp), fun a n => ?_, f.gr.kp, f.gr.al⟩, w2, fun a ha => f.own a ((sub.map _).subset ha), f.bs⟩, ?_⟩ l
  · rw [upd_ne (by rintro rfl; exact n h0)]
    exact f.gr.fr a n
  · exact en.sub s (Ex.add gp) upd_same (dpsUp (Ex.add gp) _ _ hd)
theorem lend_core {G G1 H H1 : Hp} (w : Wf K G M H) (g : Grow [] G H G1 H1) : Wf K G M H1 ∧ Grow (dom M) G H G H1 := by
  refine ⟨⟨fun a o e => g.kp a o (w.gh a o e) List.not_mem_nil, fun x hx => ?_, w.mg, w.nd⟩, ⟨Ex.rfl' G, fun _ _ => rfl, fun a o e _ => g.kp a o e List.not_mem_nil, g.al⟩⟩
  obtain ⟨o, ho⟩ := (w.mh x hx).some
  exact moUp (Ex.rfl' G) ((g.kp _ _ ho List.not_mem_nil).trans ho.symm) (w.mh x hx)
theorem lent {G H : Hp} {p : Addr} {xs : List V} (w : Wf K G M H) (hx : H p = some (.lst xs)) (gp : G p = none) : Wf K (upd G p (.lst xs)) [] H :=
  ⟨fun a u ea => by
    by_cases c : a = p
    · subst c; rw [upd_same] at ea; rw [hx]; exact ea
    · rw [upd_ne c] at ea; exact w.gh a u ea, fun _ h => absurd h List.not_mem_nil, fun _ h => absurd h List.not_mem_nil, List.nodup_nil⟩
theorem et_lend {tt : TT} {P : Bool → MM → Prop} {p : Addr} {ds : List PyData} (hm : (p, MO.lst ds) ∈ M) (s : Sub p (.list ds) es fs) (h : EvT K tt fs [] fun b _ => P b M) : EvT K tt es M P := fun σ G H Q en w r => by
  obtain ⟨xs, hx, hd⟩ := w.mh _ hm
  have gp := w.mg _ hm
  refine h σ (upd G p (.lst xs)) H Q (en.sub s (Ex.add gp) upd_same (dpsUp (Ex.add gp) _ _ hd)) (lent w hx gp) fun b M1 G1 H1 q d g w1 => ?_
  have g0 : Grow [] (upd G p (.lst xs)) H G1 H1 := g
  have z := lend_core (G := G) (G1 := G) w ⟨Ex.rfl' G, fun _ _ => rfl, g0.kp, g0.al⟩
  exact r b M G H1 q rfl z.2 z.1
end
end Yw

set_option Elab.async false
set_option linter.all false
set_option maxRecDepth 100000
set_option maxHeartbeats 4000000
/-! Own layer N: sizes; what the random bag, the judge of likeness and the reducing give. -/
namespace Yw
open PySem PySem.Spec PyProof.Rows L2
def Bd (k : Nat) (a : Int) : Prop := a.natAbs < 2 ^ k
theorem Bd.up {j k : Nat} {a : Int} (h : Bd j a) (e : j ≤ k) : Bd k a := Nat.lt_of_lt_of_le h (Nat.pow_le_pow_right (by decide) e)
theorem Bd.mul {j k : Nat} {a b : Int} (h : Bd j a) (e : Bd k b) : Bd (j + k) (a * b) := wide_lt h e
theorem Bd.add {k : Nat} {a b : Int} (h : Bd k a) (e : Bd k b) : Bd (k + 1) (a + b) := by
  unfold Bd at *
  rw [Nat.pow_succ]
  omega
theorem Bd.le {k : Nat} {a b : Int} (h : Bd k a) (e : b.natAbs ≤ a.natAbs) : Bd k b := Nat.lt_of_le_of_lt e h
theorem Bd.ok {j k : Nat} {a b : Int} (h : Bd j a) (e : Bd k b) (hj : 0 < j) (hk : 0 < k) (s : j + k ≤ 1000000) : IntMulOk a b := mulB j k h e hj hk s
theorem Bd.div {k : Nat} {b : Int} (e : Bd k b) (hk : 0 < k) (s : k ≤ 9000) : b.natAbs.log2 < 9000 := divB k e hk s
theorem mk2 {a b : Int} (h : Bd 2000 a) (e : Bd 2000 b) : IntMulOk a b := h.ok e (by decide) (by decide) (by decide)
theorem sg_bd {n d : Int} (hd : d ≠ 0) (b : Bd 8000 d) : Bd 8000 (sg n d) := by
  have h := sg_abs n d
  have : Int.gcd n d ≤ d.natAbs := Nat.le_of_dvd (Int.natAbs_pos.mpr hd) (Nat.gcd_dvd_right _ _)
  exact b.le (by omega)
structure Fq (k : Nat) (a b : Int) : Prop where
  fr : Fr a b
  n : Bd k a
  d : Bd k b
theorem Fq.ne {k : Nat} {a b : Int} (h : Fq k a b) : b ≠ 0 := by have := h.fr.1; omega
theorem Fq.up {j k : Nat} {a b : Int} (h : Fq j a b) (e : j ≤ k) : Fq k a b := ⟨h.fr, h.n.up e, h.d.up e⟩
theorem red_fq {k : Nat} {n d : Int} (h : d ≠ 0) (a : Bd k n) (b : Bd k d) : Fq k (redN n d) (redD n d) := ⟨red_fr h, a.le (redN_le h), b.le (redD_le h)⟩
section
variable {P : Program} {w : World} {K : PySem.W.Frag} {mg : Str → Option Value} {base : Heap}
def spRed (K : PySem.W.Frag) : Sp := SpP K (fun ds => ∃ n d, ds = [.int n, .int d] ∧ d ≠ 0 ∧ Bd 8000 n ∧ Bd 8000 d) (fun ds r => ∀ n d, ds = [.int n, .int d] → r = fr (redN n d) (redD n d))
theorem c_reduced {M : MM} {Q : Ent → MM → Prop} {n d : Int} (hd : d ≠ 0) (b1 : Bd 8000 n) (b2 : Bd 8000 d) (p : Q (.dat (fr (redN n d) (redD n d))) M) : Cb K (fun vs H Q => spRed K vs H Q E0) [.dat (.int n), .dat (.int d)] M Q :=
  c_PD (.cons (.cons .nil)) ⟨n, d, rfl, hd, b1, b2⟩ fun r h => by rw [h n d rfl]; exact p
theorem cutD_ints {xs : List Int} {lo hi : Option Int} : ∃ ys : List Int, cutY (xs.map PyData.int) lo hi = ys.map PyData.int ∧ ys.length ≤ xs.length := by
  refine ⟨(xs.drop (HT.sIx xs.length 0 lo)).take (HT.sIx xs.length xs.length hi - HT.sIx xs.length 0 lo), ?_, ?_⟩
  · unfold cutY
    rw [List.length_map, List.map_take, List.map_drop]
  · rw [List.length_take, List.length_drop]
    omega
theorem first_int {ys : List Int} : ∃ i, atI (ys.map PyData.int ++ [PyData.int 0]) 0 = some (.int i) := by
  cases ys with
  | nil => exact ⟨0, atI_nat (j := 0) rfl⟩
  | cons y r => exact ⟨y, atI_nat (j := 0) rfl⟩
def rTake : RR := fun ds po => ∃ many, ds = [.int many] ∧ 0 < many ∧ Bd 8000 many ∧ po = fun r => ∃ v, r = .int v ∧ 0 ≤ v ∧ v < many
theorem c_take {b : Addr} {C : Bag} {Mr : MM} {Q : Ent → MM → Prop} {many : Int} (h0 : 0 < many) (hb : Bd 8000 many) (p : ∀ v C1, 0 ≤ v → v < many → Q (.dat (.int v)) ((b, .lst (Bag.ds C1)) :: Mr)) :
    Cb K (fun vs H Q => SpD K rTake vs H Q E0) [.ref b, .dat (.int many)] ((b, .lst (Bag.ds C)) :: Mr) Q :=
  c_D (.cons .nil) _ ⟨many, rfl, h0, hb, rfl⟩ fun d C1 ⟨v, e, h1, h2⟩ => by rw [e]; exact p v C1 h1 h2
def rSome : RR := fun ds po => ∃ things, ds = [.list things] ∧ things ≠ [] ∧ things.length ≤ 1000 ∧ po = fun r => r ∈ things
theorem at_some {things : List PyData} {v : Int} (h0 : 0 ≤ v) (h1 : v < (things.length : Int)) : ∃ d, atI things v = some d ∧ d ∈ things := by
  have hk : v.toNat < things.length := by omega
  have e : v = ((v.toNat : Nat) : Int) := by omega
  have q : atI things ((v.toNat : Nat) : Int) = some things[v.toNat] := atI_nat (List.getElem?_eq_getElem hk)
  rw [← e] at q
  exact ⟨_, q, List.getElem_mem hk⟩
theorem c_some {b : Addr} {C : Bag} {Mr : MM} {Q : Ent → MM → Prop} {things : List PyData} (hn : things ≠ []) (hl : things.length ≤ 1000) (p : ∀ d C1, d ∈ things → Q (.dat d) ((b, .lst (Bag.ds C1)) :: Mr)) :
    Cb K (fun vs H Q => SpD K rSome vs H Q E0) [.ref b, .dat (.list things)] ((b, .lst (Bag.ds C)) :: Mr) Q :=
  c_D (.cons .nil) _ ⟨things, rfl, hn, hl, rfl⟩ fun d C1 h => p d C1 h
def rAlike : RR := fun ds po => ∃ d, ds = [d, d] ∧ Wt 1000000 20 d ∧ po = fun r => r = .bool true
theorem c_alike {M : MM} {Q : Ent → MM → Prop} {d e : PyData} (h : d = e) (hd : Wt 1000000 20 d) (p : Q (.dat (.bool true)) M) : Cb K (fun vs H Q => SpQ K rAlike vs H Q E0) [.dat d, .dat e] M Q := by
  subst h
  exact c_Q (.cons (.cons .nil)) _ ⟨d, rfl, hd, rfl⟩ fun r h => by rw [h]; exact p
theorem cut1 (ds : List PyData) : cutY ds (some 1) none = ds.drop 1 := by
  unfold cutY
  rw [show HT.sIx ds.length 0 (some 1) = min 1 ds.length from HT.sIx_nat ds.length 0 1, HT.sIx_none]
  cases ds with
  | nil => rfl
  | cons x r =>
    rw [show min 1 (x :: r).length = 1 by rw [List.length_cons]; omega]
    show (List.take ((x :: r).length - 1) r) = r
    rw [List.length_cons, Nat.add_sub_cancel]
    exact List.take_length
theorem abs_if (i : Int) : (if i < 0 then -i else i) = (i.natAbs : Int) := by split <;> omega
theorem wt_fr {a b : Int} (h : Fq 1900 a b) : Wt 3849 1 (fr a b) := by
  refine Wt.tup (w := 1921) (dp := 0) (n := 2) (fun d hd => ?_) (Nat.le_refl 2)
  rcases List.mem_cons.mp hd with e | hd
  · subst e; exact Wt.intB (h.n.up (by decide))
  · have e := List.mem_singleton.mp hd
    subst e; exact Wt.intB (h.d.up (by decide))
theorem ixlK {X : Cx} {K : PySem.W.Frag} (h : X.K = K) : IxR X (rIxL K) := by
  rw [← h]
  exact ix_list
theorem eqv_nil {ds : List PyData} : PyData.eqv (.list ds) (.list []) = decide (ds = []) := by
  cases ds with
  | nil => rfl
  | cons d r => rfl
end
end Yw

set_option Elab.async false
set_option linter.all false
set_option maxRecDepth 100000
set_option maxHeartbeats 4000000
/-! Own layer O: a tuple read backward; sums; repeated tuples. -/
namespace Yw
open PySem PySem.Spec PyProof.Rows L2
section
variable {prog : Program} {w : World} {A : Around} {E : Value → Shared → Prop} {s : Shared}
theorem places_rev (n : Nat) : Builtin.Slice.slicePlaces ((n : Int) - 1) (-1) (-1) = n := by
  unfold Builtin.Slice.slicePlaces
  rw [if_neg (by decide)]
  by_cases h : (n : Int) - 1 > -1
  · rw [if_pos h, show (-(-1 : Int)) = 1 by decide, Int.ediv_one]
    omega
  · rw [if_neg h]
    omega
theorem sliceApplied_rev {sl : Addr} {vl vu vs : Value} {n : Nat} {Q : Int × Int × Nat → Shared → Prop} (hs : s.heap.IsSliceOf sl vl vu vs) (pl : IsPart vl none) (pu : IsPart vu none) (ps : IsPart vs (some (-1)))
    (h : Q ((n : Int) - 1, -1, n) s) : wpAny (model prog w) A (Builtin.Slice.sliceApplied (.ref sl) (pure (n : Int))) Q E s := by
  obtain ⟨os, hos, hcs, hds⟩ := id hs
  unfold Builtin.Slice.sliceApplied Builtin.Slice.sliceFields
  refine wpAny_bind (wpAny_bind (wpAny_field hos hds (x := vl) rfl (wpAny_bind (wpAny_field hos hds (x := vu) rfl (wpAny_bind (wpAny_field hos hds (x := vs) rfl (wpAny_pure ?_)))))))
  refine wpAny_bind (HT.slicePart_ ps ?_)
  show wpAny _ _ (if ((-1 : Int) == 0) = true then _ else _) _ _ s
  rw [if_neg (by decide)]
  refine wpAny_bind (HT.slicePart_ pl (wpAny_bind (HT.slicePart_ pu (wpAny_bind (wpAny_pure ?_)))))
  show wpAny _ _ (pure ((n : Int) - 1, (-1 : Int), Builtin.Slice.slicePlaces ((n : Int) - 1) (-1) (-1))) _ _ s
  rw [places_rev]
  exact wpAny_pure h
theorem pick_rev (xs : Array Value) : ((List.range xs.size).filterMap fun (m : Nat) => xs[(((xs.size : Nat) : Int) - 1 + (m : Int) * (-1)).toNat]?).toArray = xs.toList.reverse.toArray := by
  have e : (fun (m : Nat) => xs[(((xs.size : Nat) : Int) - 1 + (m : Int) * (-1)).toNat]?) = fun m => xs[xs.size - 1 - m]? := by
    funext m
    have : (((xs.size : Nat) : Int) - 1 + (m : Int) * (-1)).toNat = xs.size - 1 - m := by omega
    rw [this]
  have e2 : (List.range xs.size).filterMap (fun m => xs[xs.size - 1 - m]?) = ((List.range xs.size).map fun k => xs.size - 1 - k).filterMap (xs[·]?) := by
    rw [List.filterMap_map]
    rfl
  rw [e, e2, PySem.W.krv_range, List.filterMap_reverse, PySem.W.krv_all]
theorem getItem_tuple_rev {t sl : Addr} {items : Array Value} {vl vu vs : Value} {Q : Value → Shared → Prop} (ht : IsTup s.heap t items) (hs : s.heap.IsSliceOf sl vl vu vs) (pl : IsPart vl none) (pu : IsPart vu none) (ps : IsPart vs (some (-1)))
    (h : Q (.ref s.heap.objs.size) { s with heap := s.heap.push { cls := .type "tuple", data := .seq items.toList.reverse.toArray } })
    (hsz : items.size ≤ sizeLine) : wpAny (model prog w) A (getItem (.ref t) (.ref sl)) Q E s := by
  have htake : sizeOk (.seq items.toList.reverse.toArray) := by
    show items.toList.reverse.toArray.size ≤ sizeLine
    rw [List.size_toArray, List.length_reverse, Array.length_toList]
    exact hsz
  obtain ⟨os, hos, hcs, hds⟩ := id hs
  have hTs : s.TypeIs (.ref sl) "slice" := ⟨os, hos, hcs⟩
  unfold getItem
  try with_reducible refine wpAny_holding ?_
  first | refine wpAny_bind (wpAny_pure ?_) | skip
  refine wpAny_bind (wpAny_sequenceKey ht.typeIs (by decide) ?_)
  refine wpAny_bind (wpAny_callSpecial?_slot (name := Str.ofString "__getitem__") ht.typeIs PyProof.Rows.slot_tuple_getitem
    (wpAny_call_entry PyProof.Rows.slot_tuple_getitem ht.typeIs PyProof.Rows.entry_tuple_getitem ?_ (PyProof.Rows.args_tuple_getitem _ _)))
  show wpAny _ _ (Builtin.Tuple.tupleItemsOf (.ref t) >>= _) _ _ s
  refine wpAny_bind (tupleItemsOf_ ht ?_)
  refine wpAny_bind (wpAny_typeOf hTs ?_)
  rw [if_pos (by decide)]
  refine wpAny_bind (sliceApplied_rev hs pl pu ps ?_)
  have hno : ¬ (((((items.size : Nat) : Int) - 1) == 0 && (-1 : Int) == 1 && items.size == items.size) = true) := by
    intro q
    rw [Bool.and_eq_true, Bool.and_eq_true] at q
    exact absurd q.1.2 (by decide)
  show wpAny _ _ (if ((((items.size : Nat) : Int) - 1) == 0 && (-1 : Int) == 1 && items.size == items.size) = true then _ else _) _ _ s
  rw [if_neg hno, pick_rev]
  first
    | exact wpAny_bind (m := Builtin.Tuple.tupleExact _) (wpAny_newObj_type (wpAny_pure ⟨_, rfl, wpAny_pure h⟩) htake)
    | exact wpAny_bind (m := Builtin.Tuple.tupleExact _) (wpAny_newObj_type (wpAny_bind (wpAny_pure (wpAny_pure ⟨_, rfl, wpAny_pure h⟩))) htake)
    | exact wpAny_bind (wpAny_bind (m := Builtin.Tuple.tupleExact _) (wpAny_newObj_type (wpAny_pure (wpAny_pure ⟨_, rfl, wpAny_pure h⟩)) htake))
    | exact wpAny_bind (wpAny_bind (m := Builtin.Tuple.tupleExact _) (wpAny_newObj_type (wpAny_pure ⟨_, rfl, wpAny_pure h⟩) htake))
end
section
variable {X : Cx}
def tRevT (K : PySem.W.Frag) (te : TE) : TE := fun σ H Q => te σ H fun x H1 => ∃ a xs, x = .ref a ∧ SqT K H1 a xs ∧ ∀ p, H1 p = none → Q (.ref p) (upd H1 p (.tup xs.reverse))
theorem pe_revT {e : Expr} {te : TE} {k : Nat} {p1 p2 p3 pos : Pos} (he : PE X e te) : PE X (.Subscript e (.Slice none none (some (.UnaryOp .USub (.Constant (.int 1) k p1) p2)) p3) pos) (tRevT X.K te) := by
  refine ⟨fun pins s σ H Q I h => ?_⟩
  refine Subscript_ (thn (he.run pins s σ H _ I h) fun v s1 ⟨x, H1, I1, r1, q1⟩ => ?_)
  obtain ⟨a, xs, ex, hx, q⟩ := q1
  subst ex
  cases r1
  have hst : PO X (some (.UnaryOp .USub (.Constant (.int 1) k p1) p2)) (tPart (tUn (rU fun i => .int (-i)) (tC (.int 1)))) := po_some (pe_un un_neg pe_int)
  refine wpAny_Slice (thn (po_none.run pins s1 σ H1 (fun o H2 => o = none ∧ H2 = H1) I1 ⟨rfl, rfl⟩) fun vl s2 ⟨l, H2, I2, pl, el, e2⟩ => ?_)
  subst el e2
  refine thn (po_none.run pins s2 σ H2 (fun o H3 => o = none ∧ H3 = H2) I2 ⟨rfl, rfl⟩) fun vu s3 ⟨u, H3, I3, pu, eu, e3⟩ => ?_
  subst eu e3
  refine thn (hst.run pins s3 σ H3 (fun o H4 => o = some (-1) ∧ H4 = H3) I3 ⟨1, rfl, -1, rfl, rfl, rfl⟩) fun vs s4 ⟨o, H4, I4, ps, eo, e4⟩ => ?_
  subst eo e4
  have I5 : Inv X pins σ H4 { s4 with heap := s4.heap.push { cls := .type "slice", data := .fields #[vl, vu, vs] } } := I4.kept (t' := s4.toks) fun b ob q => Heap.get?_push_of_some _ q
  obtain ⟨its, r, ht, hz⟩ := I5.tuple hx
  have hlen := r.length
  show wpAny (model X.prog X.w) X.A (subscriptTail e (.Slice none none (some (.UnaryOp .USub (.Constant (.int 1) k p1) p2)) p3) (.ref a) (.ref s4.heap.objs.size)) (EP X pins σ Q) X.xe { s4 with heap := s4.heap.push { cls := .type "slice", data := .fields #[vl, vu, vs] } }
  refine tail_any (ops := [.ref a, .ref s4.heap.objs.size]) ht.typeIs PyProof.Rows.slot_tuple_getitem.lookup ?_ (by with_unfolding_all rfl)
  refine getItem_tuple_rev ht (Heap.IsSliceOf.new _ vl vu vs) pl pu ps ?_ (by rw [List.size_toArray]; omega)
  refine ⟨.ref _, _, I5.laid (t' := s4.toks) (o := .tup xs.reverse) (fun b ob q => Heap.get?_push_of_some _ q) (Nat.le_refl _) ?_, rfl, q _ (I5.hok.fresh (Nat.le_refl _))⟩
  exact ⟨by rw [List.length_reverse]; exact hz, _, r.reverse, IsTup.new _ _⟩
/-- sum of a list or a tuple of ints -/
def rSumA (K : PySem.W.Frag) : List V → Hp → VK → Prop := fun vs H Q => ∃ (a : Addr) (ns : List Int), vs = [V.ref a] ∧ (SqL K H a (ns.map V.int) ∨ SqT K H a (ns.map V.int)) ∧ Q (.int ns.sum) H
theorem cr_sumA (hc : X.calm = true) : CallR X (.builtin "sum") (rSumA X.K) := by
  intro pins s σ H vs us Q I r h
  obtain ⟨a, ns, rfl, hs, q⟩ := h
  rcases hs with hs | hs
  · exact cr_sum hc pins s σ H _ us Q I r ⟨a, ns, rfl, hs, q⟩
  · obtain ⟨its, rv, ht, _⟩ := I.tuple hs
    rw [Vals.ref1 r]
    have hi := rv.ints
    obtain ⟨xs, e⟩ := hi.allInts.items
    have hn : numsOf (intItems xs).toList = ns := by rw [← e]; exact hi.numsOf
    rw [nums_intItems] at hn
    rw [e] at ht
    refine PySem.W.ktm_sumG (I.ok.hd hc) ht fun h' tk t' hk => ?_
    refine ⟨.int _, H, I.kept hk, ⟨_, rfl⟩, ?_⟩
    rw [preSum_eq, List.take_of_length_le (by simp), hn]
    exact q
end
section
variable {K : PySem.W.Frag} {es : List Ent} {M : MM} {P : Ent → MM → Prop} {te : TE}
theorem rps_rev {G : Hp} : ∀ {vs : List V} {ds : List PyData}, Rps K G vs ds → Rps K G vs.reverse ds.reverse
  | _, _, .nil => .nil
  | _, _, .cons a b => by
    rw [List.reverse_cons, List.reverse_cons]
    exact dps_app (rps_rev b) (.cons a .nil)
theorem ev_revT (h : Ev K te es M fun e M1 => ∃ ds, e = .dat (.tuple ds) ∧ P (.dat (.tuple ds.reverse)) M1) : Ev K (tRevT K te) es M P := fun σ G H Q en w q =>
  h σ G H _ en w fun e M1 x G1 H1 p e1 g1 w1 xa => by
    obtain ⟨ds, e2, p⟩ := p
    subst e2
    cases xa with
    | tup s h => exact ⟨_, _, rfl, w1.gh.t s, (q.go e1 g1).new w1 p fun a c => .tup (.inl (.inl upd_same)) (dpsUp (Ex.add c) _ _ (rps_rev h))⟩
theorem c_sumA {d : PyData} {ns : List Int} (s : Sq d (ns.map PyData.int)) (p : P (.dat (.int ns.sum)) M) : Cb K (rSumA K) [.dat d] M P := fun vs G H Q a w r => by
  cases a with
  | cons x y =>
    cases y
    cases s with
    | lst =>
      cases x with
      | lst s h => exact ⟨_, ns, rfl, .inl (by rw [← dps_ints h]; exact SqL.of (w.gh _ _ s)), r.val w p (.int _)⟩
    | tup =>
      cases x with
      | tup s h => exact ⟨_, ns, rfl, .inr (by rw [← dps_ints h]; exact w.gh.t s), r.val w p (.int _)⟩
theorem ixtK {X : Cx} {K : PySem.W.Frag} (h : X.K = K) : IxR X (rIxT K) := by
  rw [← h]
  exact ix_tup
theorem cut_butlast (ds : List PyData) : cutY ds none (some (-1)) = ds.dropLast := by
  unfold cutY
  have e : HT.sIx ds.length ds.length (some (-1)) = ds.length - 1 := by
    show (if (-1 : Int) < 0 then ((-1 : Int) + (ds.length : Int)).toNat else min (-1 : Int).toNat ds.length) = _
    rw [if_pos (by decide)]
    omega
  rw [HT.sIx_none, List.drop_zero, Nat.sub_zero, List.dropLast_eq_take, e]
end
end Yw

set_option Elab.async false
set_option linter.all false
set_option maxRecDepth 100000
set_option maxHeartbeats 4000000
/-! Own layer P: a tuple repeated any number of times. -/
namespace Yw
open PySem PySem.Spec PyProof.Rows L2
theorem tuple_mul0 (l : Addr) (items : Array Value) (n : Nat) (dd : Option Addr) (sl : Array (Option Value)) (x : Int) (u : Tok) (c0 : (decide (x < -(2 ^ 63)) || decide (x ≥ 2 ^ 63)) = false) (c1 : (items.isEmpty || x == 1) = false) (c2 : (decide (x ≤ 0) || items.isEmpty) = true) :
    Meets (Builtin.«tuple.__mul__» ⟨[.ref l, .int x u], []⟩) (fun _ R s => s.heap.get? l = some { cls := .type "tuple", dict := dd, data := .seq items n, slots := sl } ∧
      R (.ok (.ret (Value.ref s.heap.objs.size))) { s with heap := s.heap.push { cls := Value.type "tuple", data := Data.seq #[] }, toks := s.toks }) :=
  .of_wp fun prog w A R s h => by
    obtain ⟨hp, g, d, tk, os⟩ := s
    obtain ⟨hl, h⟩ := h
    have f1 := AutoSeq1.idx_int
    have hsz : ¬ (#[] : Array Value).size > sizeLine := by decide
    wp_walk using wpAny_loadPart' hl
    repeat (first
      | (refine wpAny_ite_false (decide_eq_false (by rw [c0]; exact Bool.false_ne_true)) ?_; wp_walk using wpAny_loadPart' hl)
      | (refine wpAny_ite_false (decide_eq_false (by rw [c1]; exact Bool.false_ne_true)) ?_; wp_walk using wpAny_loadPart' hl)
      | (refine wpAny_ite_true (decide_eq_true c2) ?_; wp_walk using wpAny_loadPart' hl)
      | (refine wpAny_ite_false (decide_eq_false hsz) ?_; wp_walk using wpAny_loadPart' hl))
    exact ⟨_, rfl, h⟩
theorem tuple_mul1 (l : Addr) (items : Array Value) (n : Nat) (dd : Option Addr) (sl : Array (Option Value)) (x : Int) (u : Tok) (c0 : (decide (x < -(2 ^ 63)) || decide (x ≥ 2 ^ 63)) = false) (c1 : (items.isEmpty || x == 1) = true) :
    Meets (Builtin.«tuple.__mul__» ⟨[.ref l, .int x u], []⟩) (fun _ R s => s.heap.get? l = some { cls := .type "tuple", dict := dd, data := .seq items n, slots := sl } ∧ R (.ok (.ret (Value.ref l))) s) :=
  .of_wp fun prog w A R s h => by
    obtain ⟨hp, g, d, tk, os⟩ := s
    obtain ⟨hl, h⟩ := h
    have f1 := AutoSeq1.idx_int
    wp_walk using wpAny_loadPart' hl
    repeat (first
      | (refine wpAny_ite_false (decide_eq_false (by rw [c0]; exact Bool.false_ne_true)) ?_; wp_walk using wpAny_loadPart' hl)
      | (refine wpAny_ite_true (decide_eq_true c1) ?_; wp_walk using wpAny_loadPart' hl))
    exact ⟨_, rfl, h⟩
def rRepA (K : PySem.W.Frag) : R2 := fun x y H Q => ∃ l k xs, x = .ref l ∧ y = .int k ∧ SqT K H l xs ∧ xs ≠ [] ∧ 0 ≤ k ∧ k ≤ 1000 ∧ xs.length ≤ 1000 ∧ (k = 1 → Q (.ref l) H) ∧ (k ≠ 1 → ∀ p, H p = none → Q (.ref p) (upd H p (.tup (List.replicate k.toNat xs).flatten)))
section
variable {X : Cx}
theorem op_repA : OpR X (binaryOp .Mult) (rRepA X.K) := by
  intro pins s σ H x y v u Q I rx ry h
  obtain ⟨l, k, xs, rfl, rfl, hT, hne, h1, h2, hz, q1, q2⟩ := h
  by_cases hk : 2 ≤ k
  · exact op_repT pins s σ H _ _ v u Q I rx ry ⟨l, k, xs, rfl, rfl, hT, hne, hk, h2, hz, q2 (by omega)⟩
  cases rx
  obtain ⟨t, rfl⟩ := ry
  obtain ⟨its, r, ⟨⟨cls, dd, data, sl⟩, ho, hc, n, hd⟩, hs⟩ := I.tuple hT
  simp only at hc hd
  subst hc hd
  have hle : its.length = xs.length := r.length.symm
  have hn : its ≠ [] := fun e => hne (by
    rw [e] at hle
    exact List.eq_nil_of_length_eq_zero hle.symm)
  have hi : its.toArray.isEmpty = false := by
    cases its with
    | nil => exact absurd rfl hn
    | cons a b => rfl
  have c0 : (decide (k < -(2 ^ 63)) || decide (k ≥ 2 ^ 63)) = false := by
    rw [decide_eq_false (by omega), decide_eq_false (by omega)] <;> rfl
  by_cases hk1 : k = 1
  · have c1 : (its.toArray.isEmpty || k == 1) = true := by
      rw [hi, Bool.false_or, hk1]
      rfl
    refine wpAny_binaryOp_repeat_ref (T := "tuple") (U := "int") (by decide) ⟨_, ho, rfl⟩ (fun s' => typeIs_int s' k t) noFill_tuple_mul F.fills_int_mul F.slot_int_rmul repeat_tuple F.slot_int_index.lookup
      (call_meets F.slot_int_rmul (typeIs_int s k t) F.entry_int_rmul (F.args_int_rmul_2 _ _) (int_rmul_tuple k t l its.toArray n dd sl)
        ⟨ho, rfl, ⟨_, ho, rfl⟩, call_meets F.slot_tuple_mul ⟨_, ho, rfl⟩ F.entry_tuple_mul (F.args_tuple_mul_2 _ _) (tuple_mul1 l its.toArray n dd sl k t c0 c1) ⟨ho, ?_⟩⟩)
    exact ⟨.ref l, H, I, rfl, q1 hk1⟩
  · have hk0 : k = 0 := by omega
    have c1 : (its.toArray.isEmpty || k == 1) = false := by
      rw [hi, Bool.false_or]
      exact beq_eq_false_iff_ne.mpr hk1
    have c2 : (decide (k ≤ 0) || its.toArray.isEmpty) = true := by
      rw [decide_eq_true (by omega)]
      rfl
    refine wpAny_binaryOp_repeat_ref (T := "tuple") (U := "int") (by decide) ⟨_, ho, rfl⟩ (fun s' => typeIs_int s' k t) noFill_tuple_mul F.fills_int_mul F.slot_int_rmul repeat_tuple F.slot_int_index.lookup
      (call_meets F.slot_int_rmul (typeIs_int s k t) F.entry_int_rmul (F.args_int_rmul_2 _ _) (int_rmul_tuple k t l its.toArray n dd sl)
        ⟨ho, rfl, ⟨_, ho, rfl⟩, call_meets F.slot_tuple_mul ⟨_, ho, rfl⟩ F.entry_tuple_mul (F.args_tuple_mul_2 _ _) (tuple_mul0 l its.toArray n dd sl k t c0 c1 c2) ⟨ho, ?_⟩⟩)
    have e0 : (List.replicate k.toNat xs).flatten = [] := by rw [hk0]; rfl
    have q3 := q2 hk1
    rw [e0] at q3
    refine ⟨.ref s.heap.objs.size, _, I.laid (t' := s.toks) (o := .tup []) (fun b ob q => Heap.get?_push_of_some _ q) (Nat.le_refl _) ?_, rfl, q3 _ (I.hok.fresh (Nat.le_refl _))⟩
    exact ⟨Nat.zero_le _, [], .nil, IsTup.new _ _⟩
end
section
variable {K : PySem.W.Frag} {M : MM} {P : Ent → MM → Prop}
theorem rps_rep {G : Hp} {vs : List V} {ds : List PyData} (h : Rps K G vs ds) : ∀ n : Nat, Rps K G (List.replicate n vs).flatten (List.replicate n ds).flatten
  | 0 => .nil
  | n + 1 => by
    rw [List.replicate_succ, List.replicate_succ, List.flatten_cons, List.flatten_cons]
    exact dps_app h (rps_rep h n)
theorem o_repA {ds : List PyData} {k : Int} (hn : ds ≠ []) (h0 : 0 ≤ k) (h1 : k ≤ 1000) (hl : ds.length ≤ 1000) (p : P (.dat (.tuple (List.replicate k.toNat ds).flatten)) M) : Op2 K (rRepA K) (.dat (.tuple ds)) (.dat (.int k)) M P := fun x y G H Q a b w r => by
  cases a with
  | tup s h =>
    cases b
    refine ⟨_, k, _, rfl, rfl, w.gh.t s, fun e => hn ?_, h0, h1, by rw [dps_len h]; exact hl, fun e => ?_, fun _ => r.new w p fun a c => .tup (.inl (.inl upd_same)) (dpsUp (Ex.add c) _ _ (rps_rep h _))⟩
    · subst e; cases h; rfl
    · subst e
      have e3 : (List.replicate (1 : Int).toNat ds).flatten = ds := by simp
      rw [e3] at p
      exact r.val w (e := .dat (.tuple ds)) p (.tup s h)
theorem sj_par3 {D0 : List Addr} {W : DE} {es : List Ent} {i j k : Nat} {ta : TA} (h : EvA K ta es M fun as M1 => ∃ a b c, as = [a, b, c] ∧ W.nx (((es.set i a).set j b).set k c) M1) : Sj K D0 (tPar3 i j k ta) es M W := fun G0 H0 σ H D ⟨G, fr, en⟩ l =>
  h σ G H _ en fr.wf fun as M1 vs G1 H1 p d g w x => by
    obtain ⟨a, b, c, rfl, q⟩ := p
    cases x with
    | cons x y =>
      cases y with
      | cons y z =>
        cases z with
        | cons z t =>
          cases t
          exact ⟨_, _, _, rfl, l.nx _ _ _ _ q ⟨G1, fr.step g w d, (((en.up g.gg).put x i).put y j).put z k⟩⟩
end
end Yw

set_option Elab.async false
set_option linter.all false
set_option maxRecDepth 100000
set_option maxHeartbeats 4000000
/-! Own layer Q: a comprehension with two clauses. -/
namespace Yw
open PySem PySem.Spec PyProof.Rows L2
section
variable {K : PySem.W.Frag} {C : Addr} {D1 : List Addr} {G1 H1 G H G' H' : Hp} {M M' : MM} {acc : List PyData} {xs : List V} {es : List Ent} {te : TE}
end
end Yw

set_option Elab.async false
set_option linter.all false
set_option maxRecDepth 100000
set_option maxHeartbeats 4000000
/-! Own layer R: sorted of rows of ints, any number of them; a call whose new list may change. -/
namespace Yw
open PySem PySem.Spec PyProof.Rows L2
section
variable {prog : Program} {w : World} {A : Around} {E : Value → Shared → Prop} {s : Shared} {Q : Bool → Shared → Prop}
end
section
variable {X : Cx}
end
section
variable {K : PySem.W.Frag} {M : MM} {P : Ent → MM → Prop}
end
/-! ### a call whose new list may change -/
section
variable {K : PySem.W.Frag}
end
section
variable {P : Program} {w : World} {K : PySem.W.Frag} {mg : Str → Option Value} {base : Heap}
/-- the law by its body -/
theorem hasLawF {x : Str} {st : Stmt} {N : List Str} {k : Nat} {sc : Str} {f : Addr} {fd : FuncData} (F : Fun K x x st f fd) (S : FnScope N [sc] (defScope st)) (n : Nat) (hn : N.length = n + 2)
    (body : ∀ (f : Addr) (cdv : Value) (A : Around) (outer : List Env) (s : Shared) (H : Hp) (E : XK),
      (A.deeper (envOfC x (defScope st) s.heap.objs.size f cdv)).guards = some [] →
      Room k (A.deeper (envOfC x (defScope st) s.heap.objs.size f cdv)) →
      ∃ t2, PSs (cxOf CX0 P w K mg base N x (defScope st) f cdv A outer s H E).nox (defBody st) (tSeq (tAsg (tGo (SpN K) (tCons (tVar 0) tNil)) (gName 1)) t2) ∧
        ∀ b B, Sj K [b] t2 (.no :: .ref b :: List.replicate n .no) [(b, .lst (Bag.ds B))] { nx := fun _ _ => False, rt := fun e _ => e = .dat (.bool true) }) :
    FnG P w K mg base (k + 1) f fd [sc] (SpLaw K) := by
  refine fnG F S (fun vs H Q E ⟨a, ns, e, _⟩ => by rw [e]; rfl) fun cdv A outer s H E g hr => ?_
  obtain ⟨t, ht, hs⟩ := body f cdv A outer s H E g hr
  refine ⟨_, ht, fun vs Q ⟨a, ns, e, h, h63, q⟩ => ?_⟩
  subst e
  have e0 : L2.start N [.ref a] = some (.ref a) :: none :: List.replicate n none := by
    unfold L2.start
    rw [hn]
    rfl
  rw [e0]
  refine ⟨.ref a, rfl, a, ns, rfl, h, h63, fun b B G1 H1 w1 _ => ?_⟩
  refine hs b B G1 H1 _ H1 _ ⟨G1, Far.refl w1, ?_⟩ (lk_fn (fun e M v H2 p ⟨G2, f2, y⟩ => ?_) (fun _ _ z => z) fun _ _ z => z)
  · refine .cons trivial (.cons rfl ?_)
    induction n with
    | zero => exact .nil
    | succ n ih => exact .cons trivial (by
        clear hs e0 ht body hn ih
        induction n with
        | zero => exact .nil
        | succ n ih => exact .cons trivial ih)
  · rcases p with p | ⟨_, z, _⟩
    · cases p
      cases y
      exact q H2
    · exact z.elim
end
end Yw

set_option Elab.async false
set_option linter.all false
set_option maxRecDepth 100000
set_option maxHeartbeats 1000000
set_option exponentiation.threshold 20000
/-! Own layer S: fractions, rows, draws: what is promised of them, whatever the program's text. -/
namespace Yw
open PySem PySem.Spec PyProof.Rows L2
section
variable {P : Program} {w : World} {K : PySem.W.Frag} {mg : Str → Option Value} {base : Heap}
abbrev frq (q : Int × Int) : PyData := fr q.1 q.2
abbrev frs (qs : List (Int × Int)) : List PyData := qs.map frq
theorem frs_at {qs : List (Int × Int)} {k : Nat} {d : PyData} (h : (frs qs)[k]? = some d) : ∃ q, qs[k]? = some q ∧ q ∈ qs ∧ d = frq q := by
  rw [List.getElem?_map] at h
  cases e : qs[k]? with
  | none => rw [e] at h; cases h
  | some q => rw [e] at h; exact ⟨q, rfl, List.mem_of_getElem? e, (Option.some.inj h).symm⟩
abbrev FqQ (k : Nat) (q : Int × Int) : Prop := Fq k q.1 q.2
/-- an order of fractions -/
def leq (p q : Int × Int) : Prop := p.1 * q.2 ≤ q.1 * p.2
theorem cons_of {α : Type} {l : List α} (h : l ≠ []) : ∃ a r, l = a :: r := by
  cases l with
  | nil => exact absurd rfl h
  | cons a r => exact ⟨a, r, rfl⟩
/-- the sum, step by step -/
def qadd (p q : Int × Int) : Int × Int := (redN (p.1 * q.2 + q.1 * p.2) (p.2 * q.2), redD (p.1 * q.2 + q.1 * p.2) (p.2 * q.2))
theorem qadd_fq {j k : Nat} {p q : Int × Int} (hp : FqQ j p) (hq : FqQ k q) : FqQ (j + k + 1) (qadd p q) := by
  have z : p.2 * q.2 ≠ 0 := Int.mul_ne_zero hp.ne hq.ne
  refine red_fq z ?_ ((hp.d.mul hq.d).up (by omega))
  exact Bd.add (hp.n.mul hq.d) ((hq.n.mul hp.d).up (by omega))
instance (p q : Int × Int) : Decidable (leq p q) := inferInstanceAs (Decidable (_ ≤ _))
theorem isi_ii {i : Int} (p : Q (.dat (.bool true)) M) : Cb K (rIsi K) [.dat (.int i), .ty "int"] M Q := c_isi true (show kitB "int" "int" = some true by decide +kernel) p
theorem isi_ib {i : Int} (p : Q (.dat (.bool false)) M) : Cb K (rIsi K) [.dat (.int i), .ty "bool"] M Q := c_isi false (show kitB "int" "bool" = some false by decide +kernel) p
theorem isi_tt {ds : List PyData} (p : Q (.dat (.bool true)) M) : Cb K (rIsi K) [.dat (.tuple ds), .ty "tuple"] M Q := c_isi true (show kitB "tuple" "tuple" = some true by decide +kernel) p
theorem frs_app (a b : List (Int × Int)) : frs (a ++ b) = frs a ++ frs b := List.map_append
theorem take_snoc {α : Type} {l : List α} {k : Nat} {x : α} (h : l[k]? = some x) : l.take (k + 1) = l.take k ++ [x] := by
  obtain ⟨h1, h2⟩ := List.getElem?_eq_some_iff.mp h
  rw [List.take_succ_eq_append_getElem h1, h2]
/-- a row as data -/
abbrev rowD (ns : List Int) : PyData := .tuple (ns.map PyData.int)
/-- bounds as data -/
abbrev bdD (c dr sh : PyData) (lo most le : Int) : PyData := .tuple [c, dr, sh, .int lo, .int most, .int le]
theorem pilK {X : Cx} {K : PySem.W.Frag} {tg e : Expr} {te : TE} (h : X.K = K) (he : PE X e te) : PI X tg e (iList K te) := by
  rw [← h]
  exact pi_list he
/-- one row before another -/
def lexB : List Int → List Int → Prop
  | [], [] => False
  | [], _ :: _ => True
  | _ :: _, [] => False
  | a :: s, b :: t => a < b ∨ (a = b ∧ lexB s t)
def Good (lo most cells : Int) (row : List Int) : Prop := row.sum = cells ∧ ∀ x ∈ row, lo ≤ x ∧ x ≤ most
structure AllRows (lo most cells : Int) (rs : List (List Int)) : Prop where
  ord : rs.Pairwise lexB
  mem : ∀ row, row ∈ rs ↔ Good lo most cells row
  few : rs.length ≤ 2 ^ cells.toNat
abbrev rowsD (rs : List (List Int)) : PyData := .list (rs.map rowD)
def rAll : RR := fun ds po => ∃ c dr sh lo most le cells, ds = [bdD c dr sh lo most le, .int cells] ∧ 1 ≤ lo ∧ lo ≤ most ∧ most ≤ 5 ∧ 0 ≤ cells ∧ cells ≤ 14 ∧ po = fun r => ∀ rs, AllRows lo most cells rs → r = rowsD rs
end
end Yw

set_option Elab.async false
set_option linter.all false
set_option maxRecDepth 100000
set_option maxHeartbeats 4000000
set_option exponentiation.threshold 20000
/-! Own layer T: fractions over one divisor; ranges with a step; long repeated tuples; two lists at once. -/
namespace Yw
open PySem PySem.Spec PyProof.Rows L2
/-! ### the fraction m / L -/
def qv (L m : Int) : Int × Int := (redN m L, redD m L)
section
variable {L a b c : Int}
theorem qv_of {q : Int × Int} (h : 0 < L) (f : Fr q.1 q.2) (e : q.1 * L = a * q.2) : q = qv L a := by
  obtain ⟨x, y⟩ := red_uniq f (by omega : L ≠ 0) e
  exact Prod.ext x y
theorem qv_int (h : 0 < L) (n : Int) : (n, (1 : Int)) = qv L (n * L) := qv_of h ⟨by show (0 : Int) < 1; decide, Int.gcd_one_right _⟩ (by show n * L = n * L * 1; rw [Int.mul_one])
end
/-- a list of them -/
abbrev qs (L : Int) (ms : List Int) : List PyData := frs (ms.map (qv L))
/-! ### long repeated tuples -/
section
variable {X : Cx}
end
section
variable {K : PySem.W.Frag} {M : MM} {P : Ent → MM → Prop} {es : List Ent}
/-! ### ranges with a step -/
/-! ### two lists at once, the second of which may change -/
end
/-! ### fractions over one divisor, through the program's and the law's own functions -/
section
variable {K : PySem.W.Frag} {M : MM} {Q : Ent → MM → Prop} {L a b : Int}
end
end Yw

set_option Elab.async false
set_option linter.all false
set_option maxRecDepth 100000
set_option maxHeartbeats 1000000
set_option exponentiation.threshold 20000
/-! Own layer U: tellings, rides, marks over one divisor. -/
namespace Yw
open PySem PySem.Spec PyProof.Rows L2
/-! ### sums of beginnings, once more -/
/-! ### rides -/
section
variable {K : PySem.W.Frag} {M : MM} {Q : Ent → MM → Prop} {L a b c : Int}
end
end Yw

set_option Elab.async false
set_option linter.all false
set_option maxRecDepth 100000
set_option maxHeartbeats 1000000
set_option exponentiation.threshold 20000
/-! Own layer V: what the law's own draws of bounds, rows, rides give. -/
namespace Yw
open PySem PySem.Spec PyProof.Rows L2
/-! ### sizes of texts, once more -/
theorem Wt.intK {k : Nat} {a : Int} (h0 : 0 < k) (h1 : k ≤ 1920) (h : Bd k a) : Wt (k + 1) 0 (.int a) := by
  have l : a.natAbs.log2 < k := PySem.Flt.log2_lt_of h0 h
  refine ⟨by simp [PyData.canLay0], by simp [PyData.depth], by simpa [PyData.showable] using Nat.lt_of_lt_of_le l h1, ?_⟩
  simp only [PyData.shown]
  show (PySem.Str.ofString (toString a)).length ≤ k + 1
  rw [PySem.ofString_length]
  exact PySem.int_text_length_le h0 l
end Yw

set_option Elab.async false
set_option linter.all false
set_option maxRecDepth 100000
set_option maxHeartbeats 4000000
set_option exponentiation.threshold 20000
/-! Own layer W: a def handed to a def; two sorted lists made one. -/
namespace Yw
open PySem PySem.Spec PyProof.Rows L2
section
variable {X : Cx} {k j i : Nat} {f : Addr} {fd : FuncData} {ps : List Str} {sp : Sp} {x : Str} {p pos : Pos} {e : Expr} {es : List Expr} {t : TA}
end
section
variable {K : PySem.W.Frag} {M : MM} {P : Ent → MM → Prop} {R : RR} {es as : List Ent} {ds : List PyData} {f0 : Addr}
end
section
variable {P : Program} {w : World} {K : PySem.W.Frag} {mg : Str → Option Value} {base : Heap} {x : Str} {st : Stmt} {N ps : List Str} {k : Nat} {R : RR} {f0 : Addr}
end
/-! ### merging -/
end Yw

set_option Elab.async false
set_option linter.all false
set_option maxRecDepth 100000
set_option maxHeartbeats 1000000
set_option exponentiation.threshold 20000
/-! Own layer X: what is promised of the law's own readings of tellings. -/
namespace Yw
open PySem PySem.Spec PyProof.Rows L2
section
variable {P : Program} {w : World} {K : PySem.W.Frag} {mg : Str → Option Value} {base : Heap}
theorem shaped_nil : SeqAt.shaped (.list []) = true := by decide
theorem q1 (c : Int) : PyData.tuple [.int c, .int 1] = frq (qv 1 c) := by
  have h := congrArg frq (qv_int (L := 1) (by decide) c)
  rw [Int.mul_one] at h
  exact h
theorem cut2 (ds : List PyData) (h : 2 ≤ ds.length) : cutY ds (some (-2)) none = ds.drop (ds.length - 2) := by
  unfold cutY
  have e : HT.sIx ds.length 0 (some (-2)) = ds.length - 2 := by
    show (if (-2 : Int) < 0 then ((-2 : Int) + (ds.length : Int)).toNat else min (-2 : Int).toNat ds.length) = _
    rw [if_pos (by decide)]
    omega
  rw [HT.sIx_none, e, List.take_of_length_le (by rw [List.length_drop]; omega)]
end
end Yw

set_option Elab.async false
set_option linter.all false
set_option maxRecDepth 100000
set_option maxHeartbeats 4000000
set_option exponentiation.threshold 20000
/-! Own layer Y: hearings. -/
namespace Yw
open PySem PySem.Spec PyProof.Rows L2
section
variable {K : PySem.W.Frag} {M : MM} {es : List Ent}
end
/-! ### order statistics -/
/-! ### near each other, item by item -/
/-! ### promises -/
section
variable {K : PySem.W.Frag} {M : MM} {Q : Ent → MM → Prop} {L : Int}
end
theorem cut_from (ds : List PyData) {k : Nat} (h : k ≤ ds.length) : cutY ds (some ((k : Nat) : Int)) none = ds.drop k := by
  unfold cutY
  rw [show HT.sIx ds.length 0 (some ((k : Nat) : Int)) = min k ds.length from HT.sIx_nat ds.length 0 k, HT.sIx_none, Nat.min_eq_left h, List.take_of_length_le (by rw [List.length_drop]; exact Nat.le_refl _)]
theorem cut_to (ds : List PyData) {k : Nat} (h : k ≤ ds.length) : cutY ds none (some ((k : Nat) : Int)) = ds.take k := by
  unfold cutY
  rw [show HT.sIx ds.length ds.length (some ((k : Nat) : Int)) = min k ds.length from HT.sIx_nat ds.length ds.length k, HT.sIx_none, Nat.min_eq_left h, List.drop_zero, Nat.sub_zero]
end Yw

set_option Elab.async false
set_option linter.all false
set_option maxRecDepth 100000
set_option maxHeartbeats 4000000
set_option exponentiation.threshold 20000
/-! Own layer Z: enumerate of a tuple. -/
namespace Yw
open PySem PySem.Spec PyProof.Rows L2
open Sem (wp)
open AutoSeq1 (wpAny_loadPart')
theorem enum_newT (l : Addr) (items : Array Value) (n : Nat) (dct : Option Addr) (sl : Array (Option Value)) :
    Meets (Builtin.«enumerate.__new__» ⟨[.type "enumerate", .ref l], []⟩) (fun _ R s => s.heap.get? l = some { cls := .type "tuple", dict := dct, data := .seq items n, slots := sl } ∧
      R (.ok (.ret (.ref (s.heap.push { cls := .type "tuple_iterator", data := .fields #[.ref l, .int 0 0] }).objs.size)))
        { s with heap := (s.heap.push { cls := .type "tuple_iterator", data := .fields #[.ref l, .int 0 0] }).push { cls := .type "enumerate", data := .fields #[.none, .bool false, .ref s.heap.objs.size, rawInt 0, .none, .none] } }) :=
  .of_wp fun prog w A R s h => by
    obtain ⟨hp, g, d, tk, os⟩ := s; obtain ⟨hl, h⟩ := h
    have hsub := sub_enumerate
    have hL : Heap.IsTuple (Shared.heap ⟨hp, g, d, tk, os⟩) l items := ⟨_, hl, rfl, n, rfl⟩
    wp_walk using wpAny_loadPart' hl
    refine wpAny_stack_any fun st => wpAny_pure ?_
    split
    · rename_i c _ _ _ _ _
      cases (c == Value.type "enumerate")
      · wp_walk using wpAny_loadPart' hl, wpAny_pyIter_tuple hL
        exact ⟨_, rfl, h⟩
      · wp_walk using wpAny_loadPart' hl, wpAny_pyIter_tuple hL
        exact ⟨_, rfl, h⟩
    · wp_walk using wpAny_loadPart' hl, wpAny_pyIter_tuple hL
      exact ⟨_, rfl, h⟩
section
variable {prog : Program} {w : World} {A : Around} {E : Value → Shared → Prop} {s : Shared}
theorem call_enumT {l : Addr} {items : Array Value} {Q : Value → Shared → Prop} (hL : s.heap.IsTuple l items)
    (h : ∀ h', IsEnum h' (s.heap.objs.size + 1) s.heap.objs.size 0 .none → h'.IsTupleIter s.heap.objs.size l 0 → h'.objs.size = s.heap.objs.size + 2 →
      (∀ b o, s.heap.get? b = some o → h'.get? b = some o) → Q (.ref (s.heap.objs.size + 1)) { s with heap := h' }) :
    wpAny (model prog w) A (call (.type "enumerate") [.ref l]) Q E s := by
  obtain ⟨⟨c, dct, dt, sl⟩, hl, hc, n, hd⟩ := hL
  replace hc : c = .type "tuple" := hc
  replace hd : dt = .seq items n := hd
  subst hc hd
  refine callType_new F.called_enumerate (by decide) (F.typeCall_enumerate_1 _) (F.newCall_enumerate_1 _) (fun obj => F.args_object_init_2 obj _) F.entry_enumerate_new
    (enum_newT l items n dct sl) ⟨hl, ?_⟩
  have hz : (s.heap.push { cls := .type "tuple_iterator", data := .fields #[.ref l, .int 0 0] }).objs.size = s.heap.objs.size + 1 := Heap.size_push ..
  show _ ∧ _
  rw [hz]
  have he : IsEnum ((s.heap.push { cls := .type "tuple_iterator", data := .fields #[.ref l, .int 0 0] }).push
      { cls := .type "enumerate", data := .fields #[.none, .bool false, .ref s.heap.objs.size, rawInt 0, .none, .none] }) (s.heap.objs.size + 1) s.heap.objs.size 0 .none := by
    have := Heap.get?_push_size (s.heap.push { cls := .type "tuple_iterator", data := .fields #[.ref l, .int 0 0] })
      (o := { cls := .type "enumerate", data := .fields #[.none, .bool false, .ref s.heap.objs.size, rawInt 0, .none, .none] }) rfl
    rw [hz] at this; exact this
  refine ⟨⟨_, he, rfl⟩, h _ he ⟨_, Heap.get?_push_of_some _ (Heap.get?_push_size _ rfl), rfl, rfl⟩ (by rw [Heap.size_push, hz]) fun b o x => Heap.get?_push_of_some _ (Heap.get?_push_of_some _ x)⟩
end
/-- the tuple at a, each item in a new pair -/
def IteT (K : PySem.W.Frag) (a : Addr) : It :=
  ⟨fun i H => ∃ (xs : List V) (x : V), SqT K H a xs ∧ xs[i]? = some x, fun i H v H' => ∃ T x, v = .ref T ∧ H T = none ∧ H' = upd H T (.tup [.int (i : Nat), x]) ∧ ∀ xs, SqT K H a xs → xs[i]? = some x, fun i H => ∃ xs : List V, SqT K H a xs ∧ xs.length ≤ i⟩
theorem enum_ne {h : Heap} {it a : Addr} {i : Nat} {xs : Array Value} (x : h.IsTupleIter it a i) (y : h.IsTuple a xs) : a ≠ it := by
  rintro rfl
  obtain ⟨o, ho, hc, _⟩ := x
  obtain ⟨o', ho', hc', _⟩ := y
  rw [ho] at ho'
  cases ho'
  rw [hc] at hc'
  exact absurd (Value.type.inj hc') (by decide)
theorem turn_enumT {P : Program} {w : World} {K : PySem.W.Frag} {elts : List Expr} {kk : Nat} {tpos : Pos} (a e it : Addr) :
    Turn P w K (.Tuple elts kk tpos) (IteT K a) [e, it] e (fun i h => (∃ old, IsEnum h e it ((i : Nat) : Int) old) ∧ h.IsTupleIter it a i ∧ e ≠ it) where
  mem := by simp
  obj := fun i h st b hb => by
    obtain ⟨⟨old, he⟩, ⟨o, ho, hc, hd⟩, _⟩ := st
    have e' : b = e ∨ b = it := by simpa using hb
    rcases e' with z | z
    · rw [z]; exact ⟨_, he, fun v q => nomatch q⟩
    · rw [z]; exact ⟨o, ho, fun v q => by rw [hd] at q; cases q⟩
  keep := fun i h h' st k => let ⟨⟨old, he⟩, hi, hne⟩ := st; ⟨⟨old, k e (by simp) _ he⟩, hi.at fun o q => k it (by simp) o q, hne⟩
  item := by
    intro X hP hw hK hc i pins s σ H E I hf st hg
    subst hP hw hK
    obtain ⟨⟨old, he⟩, hit, hne⟩ := st
    obtain ⟨xs, x, hq, hx⟩ := hg
    obtain ⟨its, rv, p, hz⟩ := I.tuple hq
    have p : s.heap.IsTuple a its.toArray := p
    obtain ⟨u, hu, ru⟩ := rv.get hx
    have hel : e < s.heap.objs.size := Heap.lt_size he
    have hil : it < s.heap.objs.size := by obtain ⟨_, q, _⟩ := id hit; exact Heap.lt_size q
    have hli : i < its.toArray.size := by
      have := (List.getElem?_eq_some_iff.mp hu).1
      simpa using this
    have hea : e ≠ a := by
      rintro rfl
      obtain ⟨o', ho', hc', _⟩ := id p
      have he' : s.heap.get? e = _ := he
      rw [he'] at ho'
      cases ho'
      exact absurd (Value.type.inj hc') (by decide)
    refine wpAny_pyNext_enum_itemD (Draws.tuple (A := X.A.in1) (I.ok.hd hc) it a (enum_ne hit p) its.toArray) he ⟨hit, p⟩ hli hne (by simp; exact ⟨hne, hea⟩) fun y h' tk hy ho hst' hT hsz hk => ?_
    have ey : y = u := by
      have : its.toArray[i]? = some y := hy
      rw [show its.toArray[i]? = some u by simpa using hu] at this
      exact (Option.some.inj this).symm
    subst ey
    refine ⟨_, rfl, wpAny_letOwnedTupleGo_enum (s := { s with heap := h', toks := tk + 1 }) ho fun h'' he' sb => ?_⟩
    have hT2 : h''.get? s.heap.objs.size = some { cls := .type "tuple", data := .seq #[.int i tk, y] } := (sb.2 _ (Nat.ne_of_gt hel)).trans hT
    have new : ObjOk X.prog X.w (upd H s.heap.objs.size (.tup [.int (i : Nat), x])) h'' s.heap.objs.size (.tup [.int (i : Nat), x]) :=
      ⟨by show 2 ≤ sizeLine; decide, [.int i tk, y], .cons ⟨_, rfl⟩ (.cons ru .nil), ⟨_, hT2, rfl, _, rfl⟩⟩
    have I1 : Inv X pins σ (upd H s.heap.objs.size (.tup [.int (i : Nat), x])) { s with heap := h'', toks := tk + 1 } :=
      I.turnedNew (ch := [e, it]) (fun b ob hb q => (sb.2 b (fun z => hb (by simp [z]))).trans (hk b ob (fun z => hb (by simp [z])) (fun z => hb (by simp [z])) q)) hf (Nat.le_refl _) new
    refine ⟨.ref s.heap.objs.size, _, I1, rfl, ⟨_, x, rfl, I.hok.fresh (Nat.le_refl _), rfl, fun ys hy => by rw [I.tuple_inj hy hq]; exact hx⟩, ⟨⟨y, ?_⟩, hst'.1.at fun o q => (sb.2 it (Ne.symm hne)).trans q, hne⟩, fun b hb => ?_⟩
    · have e1 : ((i + 1 : Nat) : Int) = (i : Int) + 1 := by omega
      rw [e1]; exact he'
    · have hb' : b < s.heap.objs.size := by
        have e' : b = e ∨ b = it := by simpa using hb
        rcases e' with z | z
        · rw [z]; exact hel
        · rw [z]; exact hil
      rw [upd_ne (Nat.ne_of_lt hb')]
      exact (hf b hb).1
  done := by
    intro X hP hw hK hc i pins s σ H E I hf st hg
    subst hP hw hK
    obtain ⟨⟨old, he⟩, hit, hne⟩ := st
    obtain ⟨xs, hq, hx⟩ := hg
    obtain ⟨its, rv, p, hz⟩ := I.tuple hq
    have p : s.heap.IsTuple a its.toArray := p
    obtain ⟨f0, f1, f2, f3, f4, f5⟩ := hf it (by simp)
    have hl := rv.length
    have hT : s.TypeIs (.ref e) "enumerate" := ⟨_, he, rfl⟩
    unfold pyNext
    refine wpAny_bind (wpAny_attempt (wpAny_callSpecial?_slot (name := Str.ofString "__next__") hT F.slot_enumerate_next
      (wpAny_call_entry F.slot_enumerate_next hT F.entry_enumerate_next ?_ (F.args_enumerate_next_1 _))))
    show wpAny _ _ (field (.ref e) 2 >>= _) _ _ _
    refine wpAny_bind (wpAny_field he rfl (x := .ref it) rfl ?_)
    refine wpAny_bind (wpAny_nextOf_tuple_end (I.ok.hd hc) hit p (by simp; omega) fun h' x he' hx' => ?_)
    obtain ⟨o, ho, hcc⟩ := hx'
    refine wpAny_bind (wpAny_isInstance (T := "StopIteration") (b := true) ⟨o, ho, hcc⟩ isSubtype_stop ?_)
    exact wpAny_pure ⟨rfl, I.turned (t' := s.toks) (fun b o hb q => he' b o hb q) f0 f1 f3 f4 f5⟩
  self := fun A i s Q E st h => let ⟨⟨_, he⟩, _⟩ := st; wpAny_pyIter_enum he h
def iEnumT (K : PySem.W.Frag) (ta : TA) : TI := fun σ H R => ta σ H fun vs H1 => ∃ a xs, vs = [.ref a] ∧ SqT K H1 a xs ∧ R (IteT K a) H1
theorem pi_enumT {X : Cx} {e : Expr} {ta : TA} {p pos tpos : Pos} {elts : List Expr} {kk : Nat} (hg : Gl X "enumerate") (hm : X.mg "enumerate" = none) (ha : PA X [e] ta) (hs : starEach [e] X.env = [(false, eval e X.env)] := by rfl) :
    PI X (.Tuple elts kk tpos) (.Call (.Name "enumerate" p) [e] [] pos) (iEnumT X.K ta) := by
  refine ⟨fun pins s σ H R I h => ?_⟩
  refine Call_ (ld_blt I hg hm boot_enumerate (PyProof.Rows.callWith_type1 (thn (ha.run pos pins s σ H _ I h) fun us s1 ⟨vs, H1, I1, r1, q1⟩ => ?_) hs rfl))
  obtain ⟨a, xs, ex, hq, q⟩ := q1
  subst ex
  cases r1 with
  | cons r rr =>
    cases rr
    cases r
    obtain ⟨its, rv, p', hz⟩ := I1.tuple hq
    refine call_enumT (show s1.heap.IsTuple a its.toArray from p') fun h' he hit hsz hk => wpAny_pyIter_enum he ?_
    have I2 : Inv X pins σ H1 { s1 with heap := h' } := I1.kept (t' := s1.toks) hk
    refine ⟨s1.heap.objs.size + 1, [s1.heap.objs.size + 1, s1.heap.objs.size], _, _, H1, rfl, I2, turn_enumT a (s1.heap.objs.size + 1) s1.heap.objs.size, ⟨⟨.none, he⟩, hit, Nat.succ_ne_self _⟩, fun b hb => ?_, q⟩
    have e' : b = s1.heap.objs.size + 1 ∨ b = s1.heap.objs.size := by simpa using hb
    have hle : s1.heap.objs.size ≤ b := by
      rcases e' with z | z
      · rw [z]; exact Nat.le_add_right _ _
      · rw [z]; exact Nat.le_refl _
    exact I1.fpOk hle (I1.hok.fresh hle)
/-- the pairs -/
def enumD : Nat → List PyData → List PyData
  | _, [] => []
  | k, d :: r => .tuple [.int (k : Nat), d] :: enumD (k + 1) r
theorem enumD_at : ∀ {ds : List PyData} {n k : Nat} {d : PyData}, (enumD n ds)[k]? = some d → ∃ a, ds[k]? = some a ∧ d = .tuple [.int ((n + k : Nat) : Int), a]
  | [], _, _, _, h => by simp [enumD] at h
  | a :: as, n, 0, d, h => ⟨a, rfl, by simpa [enumD] using h.symm⟩
  | a :: as, n, k + 1, d, h => by
    obtain ⟨x, p, e⟩ := enumD_at (ds := as) (n := n + 1) (k := k) (by simpa [enumD] using h)
    exact ⟨x, by simpa using p, by rw [e, show n + 1 + k = n + (k + 1) by omega]⟩
theorem enumD_len : ∀ (n : Nat) (ds : List PyData), (enumD n ds).length = ds.length
  | _, [] => rfl
  | n, d :: r => by rw [enumD, List.length_cons, enumD_len (n + 1) r, List.length_cons]
section
variable {K : PySem.W.Frag} {M : MM} {es : List Ent} {G1 : Hp}
theorem yl_enumT {a : Addr} {xs : List V} {ds : List PyData} (h : SqT K G1 a xs) (x : Rps K G1 xs ds) : Yl K G1 (IteT K a) (enumD 0 ds) := fun M G H e w => by
  have s := w.gh.t (e.t h)
  refine ⟨fun k d q => ?_, ⟨xs, s, ?_⟩⟩
  · obtain ⟨p, hp, rfl⟩ := enumD_at q
    obtain ⟨v, hv, rv⟩ := dps_at (dpsUp e _ _ x) hp
    refine ⟨⟨xs, v, s, hv⟩, fun z H1 ⟨T, x1, e1, n, e2, f1⟩ => ?_⟩
    subst e1 e2
    obtain rfl := Option.some.inj (hv.symm.trans (f1 xs s))
    rw [Nat.zero_add]
    exact w.pair n (.int _) rv
  · rw [enumD_len, ← dps_len x]
    exact Nat.le_refl _
theorem iw_enumT {ta : TA} {P : List PyData → MM → Prop} (h : EvA K ta es M fun as M1 => ∃ ds : List PyData, as = [.dat (.tuple ds)] ∧ P (enumD 0 ds) M1) : Iw K (iEnumT K ta) es M P := fun σ G H R en w k =>
  h σ G H _ en w fun as M1 vs G1 H1 p d g w1 x => by
    obtain ⟨ds, e, p⟩ := p
    subst e
    cases x with
    | cons x1 x2 =>
      cases x2
      cases x1 with
      | tup s a => exact ⟨_, _, rfl, w1.gh.t s, k _ M1 G1 H1 _ p d g w1 (yl_enumT s a)⟩
end
end Yw

set_option Elab.async false
set_option linter.all false
set_option maxRecDepth 100000
set_option maxHeartbeats 4000000
set_option exponentiation.threshold 20000
/-! Own layer: inequalities. -/
namespace Yw
open PySem PySem.Spec PyProof.Rows L2
section
variable {K : PySem.W.Frag} {M : MM} {P : Ent → MM → Prop}
end
/-! ### sums of products -/
/-! ### the inequalities -/
/-! ### promises -/
section
variable {K : PySem.W.Frag} {M : MM} {Q : Ent → MM → Prop} {L : Int}
end
section
variable {K : PySem.W.Frag} {M : MM} {es : List Ent}
end
/-! ### by a whole number -/
end Yw

set_option Elab.async false
set_option linter.all false
set_option maxRecDepth 100000
set_option maxHeartbeats 1000000
/-! Own layer: all rows over so many cells, one by one, in order; how many; the one at a place. -/
namespace Yw
open PySem PySem.Spec PyProof.Rows L2
/-- the rows over n cells whose first run is at least r (k: how deep it goes) -/
def rowsF (lo most : Nat) : Nat → Nat → List (List Int)
  | 0, n => if n = 0 then [[]] else []
  | k + 1, n => if n = 0 then [[]] else ((List.range' lo (min most n + 1 - lo)).map fun r => (rowsF lo most k (n - r)).map fun q => ((r : Nat) : Int) :: q).flatten
theorem map_congr_mem {α β : Type} {f g : α → β} {l : List α} (h : ∀ a ∈ l, f a = g a) : l.map f = l.map g := List.map_congr_left h
theorem rowsF_up {lo most : Nat} (h1 : 1 ≤ lo) : ∀ k n, n ≤ k → rowsF lo most (k + 1) n = rowsF lo most k n
  | 0, n, h => by
    have e : n = 0 := by omega
    subst e
    simp [rowsF]
  | k + 1, n, h => by
    rw [rowsF, rowsF]
    by_cases e : n = 0
    · rw [if_pos e, if_pos e]
    · rw [if_neg e, if_neg e]
      congr 1
      refine map_congr_mem fun r hr => ?_
      have hr := (List.mem_range'_1.mp hr).1
      rw [rowsF_up h1 k (n - r) (by omega)]
def rowsL (lo most n : Nat) : List (List Int) := rowsF lo most n n
theorem rowsF_ge {lo most : Nat} (h1 : 1 ≤ lo) (n : Nat) : ∀ d, rowsF lo most (n + d) n = rowsL lo most n
  | 0 => rfl
  | d + 1 => by
    rw [← Nat.add_assoc, rowsF_up h1 (n + d) n (by omega)]
    exact rowsF_ge h1 n d
def fromQ (lo most n r : Nat) : List (List Int) := (rowsL lo most (n - r)).map fun q => ((r : Nat) : Int) :: q
/-- with a first run of at least r -/
def rowsR (lo most n r : Nat) : List (List Int) := ((List.range' r (min most n + 1 - r)).map (fromQ lo most n)).flatten
theorem rowsL_zero (lo most : Nat) : rowsL lo most 0 = [[]] := by simp [rowsL, rowsF]
theorem rowsL_eq {lo most n : Nat} (h1 : 1 ≤ lo) (hn : n ≠ 0) : rowsL lo most n = rowsR lo most n lo := by
  obtain ⟨m, rfl⟩ : ∃ m, n = m + 1 := ⟨n - 1, by omega⟩
  unfold rowsL rowsR
  rw [rowsF, if_neg hn]
  congr 1
  refine map_congr_mem fun r hr => ?_
  have hr := (List.mem_range'_1.mp hr).1
  unfold fromQ
  rw [← rowsF_ge h1 (m + 1 - r) (m - (m + 1 - r)), show m + 1 - r + (m - (m + 1 - r)) = m by omega]
def cntL (lo most n : Nat) : Int := ((rowsL lo most n).length : Int)
theorem fromQ_len (lo most n r : Nat) : (fromQ lo most n r).length = (rowsL lo most (n - r)).length := List.length_map _
/-- how many, by the first run -/
theorem cntL_eq {lo most n : Nat} (h1 : 1 ≤ lo) (hn : n ≠ 0) : cntL lo most n = ((List.range' lo (min most n + 1 - lo)).map fun r => cntL lo most (n - r)).sum := by
  unfold cntL
  rw [rowsL_eq h1 hn]
  unfold rowsR
  generalize List.range' lo (min most n + 1 - lo) = l
  induction l with
  | nil => rfl
  | cons r l ih =>
    rw [List.map_cons, List.flatten_cons, List.length_append, List.map_cons, List.sum_cons, ← ih, fromQ_len]
    omega
/-! ### promises -/
def cntsD (lo most n : Nat) : PyData := rowD ((List.range (n + 1)).map (cntL lo most))
section
variable {K : PySem.W.Frag} {M : MM} {Q : Ent → MM → Prop}
def rCounts : RR := fun ds po => ∃ c dr sh le, ∃ (lo most n : Nat), ds = [bdD c dr sh (lo : Int) (most : Int) le, .int (n : Int)] ∧ 1 ≤ lo ∧ lo ≤ most ∧ most ≤ 1000 ∧ n ≤ 2000 ∧ po = fun r => r = cntsD lo most n
theorem c_counts {c dr sh : PyData} {le l m d : Int} (lo most n : Nat) (hl : l = (lo : Int)) (hm : m = (most : Int)) (hd : d = (n : Int)) (h1 : 1 ≤ lo) (h2 : lo ≤ most) (h3 : most ≤ 1000) (h4 : n ≤ 2000) (p : Q (.dat (cntsD lo most n)) M) : Cb K (fun vs H Q => SpQ K rCounts vs H Q E0) [.dat (bdD c dr sh l m le), .dat (.int d)] M Q := by
  subst hl hm hd
  exact c_Q (.cons (.cons .nil)) _ ⟨c, dr, sh, le, lo, most, n, rfl, h1, h2, h3, h4, rfl⟩ fun r e => by rw [e]; exact p
end
section
variable {K : PySem.W.Frag} {M : MM} {es : List Ent}
end
section
variable {K : PySem.W.Frag} {M : MM} {Q : Ent → MM → Prop}
end
section
variable {K : PySem.W.Frag} {M : MM} {es : List Ent} {P : Ent → MM → Prop} {te : TE}
/-- list(range(n)) -/
theorem ev_listRg (h : Ev K te es M fun e M1 => ∃ n : Int, e = .dat (.int n) ∧ RgOk 0 n ∧ P (.dat (.list (rgD 0 n.toNat))) M1) : Ev K (tLstRg (tRg1 te)) es M P := fun σ G H Q en w q =>
  h σ G H _ en w fun e M1 x G1 H1 hp d g w1 xa => by
    obtain ⟨n, rfl, ok, p⟩ := hp
    cases xa
    refine ⟨n, rfl, ok, fun r hr => ?_⟩
    have e2 : rgV 0 n = ((List.range n.toNat).map fun (i : Nat) => 0 + (i : Int)).map V.int := by
      unfold rgV
      simp
    have e3 : rgD 0 n.toNat = ((List.range n.toNat).map fun (i : Nat) => 0 + (i : Int)).map PyData.int := by
      unfold rgD
      simp
    rw [e2]
    rw [e3] at p
    exact (q.go d g).new w1 p (fun a c => .lst upd_same (ints_dps _)) r hr
end
end Yw

set_option Elab.async false
set_option linter.all false
set_option maxRecDepth 100000
set_option maxHeartbeats 4000000
/-! Own layer: a def that may let an exception out (guards known empty). -/
namespace Yw
open PySem PySem.Spec PyProof.Rows L2
section
variable {P : Program} {w : World} {K : PySem.W.Frag} {mg : Str → Option Value} {base : Heap}
end
section
variable {X : Cx} {k : Nat} {f : Addr} {fd : FuncData} {ps : List Str} {sp : Sp} {x : Str} {p pos : Pos} {e : Expr} {es : List Expr} {t : TA} {E : L2.St → XK}
end
end Yw

set_option Elab.async false
set_option linter.all false
set_option maxRecDepth 100000
set_option maxHeartbeats 4000000
/-! Own layer: pow with a modulus, an int written at the top, the field of 97. -/
namespace Yw
open PySem PySem.Spec PyProof.Rows L2
section
open PySem.Calls
theorem entry_pow : entryFor table "pow" = some Builtin.«pow» := entryFor_of_tree (by kernel_rfl)
theorem kind_pow : builtinKind "pow" = none := by kernel_rfl
theorem plain_pow : plainId "pow" = true := by decide +kernel
theorem args_pow3 (a b c : Value) : argsOk "pow" ⟨[a, b, c], []⟩ := by unfold argsOk; kernel_rfl
theorem args_int_pow3 (a b c : Value) : argsOk "int.__pow__" ⟨[a, b, c], []⟩ := by unfold argsOk; kernel_rfl
theorem run_pow3 (a : Int) (t u v : Tok) :
    PySem.Gives (Builtin.«int.__pow__» ⟨[.int a t, .int 95 u, .int 97 v], []⟩) (.int (Builtin.powMod (a % 97).toNat 95 97)) :=
  .of_wp fun M A E s Q h => by obtain ⟨hp, g, d, tk, os⟩ := s; wp_walk; exact ⟨_, rfl, h⟩
theorem pow3 {prog : Program} {w : World} {A : Around} {E : Value → Shared → Prop} {s : Shared} {a : Int} {t u v : Tok} {Q : Value → Shared → Prop}
    (h : Q (.int (Builtin.powMod (a % 97).toNat 95 97) s.toks) { s with toks := s.toks + 1 }) :
    wpAny (model prog w) A (call (.builtin "pow") [.int a t, .int 95 u, .int 97 v]) Q E s := by
  refine Calls.call_function_entry kind_pow plain_pow entry_pow (args_pow3 _ _ _) ?_
  unfold Builtin.«pow»
  refine wpAny_bind (m := Builtin.Builtins.bindParams "pow" ["base", "exp", "mod"] 2 _) (wpAny_pure ?_)
  wp_walk
  have hl : typeLookup (Value.type "int") (Str.ofString "__pow__") = pure (some (.builtin "int.__pow__")) := by rw [typeLookup_type, builtinLookup_eq_fast]; kernel_rfl
  rw [hl]
  refine wpAny_pure ?_
  refine wpAny_bind (wpAny_callSpecial?_slot (name := Str.ofString "__pow__") (typeIs_int s a t) slot_int_pow (call_gives slot_int_pow (typeIs_int s a t) entry_int_pow (args_int_pow3 _ _ _) (run_pow3 a t u v) ?_))
  exact wpAny_pure ⟨_, rfl, h⟩
end
/-- what is the inverse among the 97 -/
def inv97 (a : Int) : Int := ((Builtin.powMod (a % 97).toNat 95 97 : Nat) : Int)
theorem inv97_all : ∀ n : Nat, n < 97 → n ≠ 0 → 0 < Builtin.powMod n 95 97 ∧ Builtin.powMod n 95 97 < 97 ∧ n * Builtin.powMod n 95 97 % 97 = 1 := by decide +kernel
theorem inv97_lt : ∀ n : Nat, n < 97 → Builtin.powMod n 95 97 < 97 := by decide +kernel
def rPow : List V → Hp → VK → Prop := fun vs H Q => ∃ a : Int, vs = [.int a, .int 95, .int 97] ∧ Q (.int (inv97 a)) H
theorem cr_pow {X : Cx} : CallR X (.builtin "pow") rPow := by
  intro pins s σ H vs us Q I r h
  obtain ⟨a, rfl, q⟩ := h
  cases r with
  | cons r1 r =>
    cases r with
    | cons r2 r =>
      cases r with
      | cons r3 r =>
        cases r
        obtain ⟨t, rfl⟩ := r1
        obtain ⟨u, rfl⟩ := r2
        obtain ⟨v, rfl⟩ := r3
        exact pow3 ⟨.int _, H, I.tok _, ⟨_, rfl⟩, q⟩
/-- an int that the top has written -/
theorem pe_globI {X : Cx} {x : Str} {i : Int} {pos : Pos} (hg : Gl X x) (hm : ∃ t, X.mg x = some (.int i t)) (hd : (x == ("__debug__" : Str)) = false := by decide) : PE X (.Name x pos) (tC (.int i)) := by
  obtain ⟨t, hm⟩ := hm
  exact pe_glob hg hm ⟨t, rfl⟩ hd
section
variable {K : PySem.W.Frag} {M : MM} {P : Ent → MM → Prop} {i j : Int}
theorem c_powR (p : P (.dat (.int (inv97 i))) M) : Cb K rPow [.dat (.int i), .dat (.int 95), .dat (.int 97)] M P := fun vs G H Q a w r => by
  cases a with
  | cons x y =>
    cases x
    cases y with
    | cons x y =>
      cases x
      cases y with
      | cons x y => cases x; cases y; exact ⟨i, rfl, r.val w p (.int _)⟩
def rFsum : RR := fun ds po => ∃ a b, ds = [.int a, .int b] ∧ po = fun r => r = .int ((a + b) % 97)
def rFless : RR := fun ds po => ∃ a b, ds = [.int a, .int b] ∧ po = fun r => r = .int ((a - b) % 97)
def rFprod : RR := fun ds po => ∃ a b, ds = [.int a, .int b] ∧ Bd 60 a ∧ Bd 60 b ∧ po = fun r => r = .int (a * b % 97)
def rFinv : RR := fun ds po => ∃ a, ds = [.int a] ∧ po = fun r => r = .int (inv97 a)
theorem c_fsum (p : P (.dat (.int ((i + j) % 97))) M) : Cb K (fun vs H Q => SpQ K rFsum vs H Q E0) [.dat (.int i), .dat (.int j)] M P :=
  c_Q (.cons (.cons .nil)) _ ⟨i, j, rfl, rfl⟩ fun r h => by rw [h]; exact p
theorem c_fless (p : P (.dat (.int ((i - j) % 97))) M) : Cb K (fun vs H Q => SpQ K rFless vs H Q E0) [.dat (.int i), .dat (.int j)] M P :=
  c_Q (.cons (.cons .nil)) _ ⟨i, j, rfl, rfl⟩ fun r h => by rw [h]; exact p
theorem c_fprod (h1 : Bd 60 i) (h2 : Bd 60 j) (p : P (.dat (.int (i * j % 97))) M) : Cb K (fun vs H Q => SpQ K rFprod vs H Q E0) [.dat (.int i), .dat (.int j)] M P :=
  c_Q (.cons (.cons .nil)) _ ⟨i, j, rfl, h1, h2, rfl⟩ fun r h => by rw [h]; exact p
theorem c_finv (p : P (.dat (.int (inv97 i))) M) : Cb K (fun vs H Q => SpQ K rFinv vs H Q E0) [.dat (.int i)] M P :=
  c_Q (.cons .nil) _ ⟨i, rfl, rfl⟩ fun r h => by rw [h]; exact p
theorem bd97 {a : Int} (h0 : 0 ≤ a) (h1 : a < 97) : Bd 60 a := by
  show _ < _
  omega
end
section
variable {K : PySem.W.Frag} {M : MM} {es : List Ent}
/-- a, b = [..], x, the first of which may change -/
theorem sj_parM {D0 : List Addr} {W : DE} {i j : Nat} {ta : TA} {tb : TE} (h : EvA K ta es M fun as M1 => ∃ ds, Ds as ds ∧ ds.length ≤ 100000 ∧ ∀ p, p ∉ D0 → Ev K tb es (M1 ++ [(p, .lst ds)]) fun b M2 => W.nx ((es.set i (.ref p)).set j b) M2) :
    Sj K D0 (tPar i j (tCons (tLst ta) (tCons tb tNil))) es M W := by
  intro G0 H0 σ H D ⟨G, f, en⟩ l
  have q : ∀ (a b : V) (R : V → V → Prop), (∃ v w, [a, b] = [v, w] ∧ R v w) = R a b := fun a b R => propext ⟨fun ⟨v, w, e, r⟩ => by cases e; exact r, fun r => ⟨a, b, rfl, r⟩⟩
  simp only [tPar, tCons, tNil, tLst, q]
  refine h σ G H _ en f.wf fun as M1 vs G1 H1 p d g w x => ?_
  obtain ⟨ds, e, n, k⟩ := p
  rw [e.eq] at x
  have xd := EnA.dats x
  refine ⟨by rw [dps_len xd]; exact Nat.le_trans n (by decide), fun r hr => ?_⟩
  have f1 := f.step g w d
  have u := w.newM hr xd
  have fN : Far K G0 D0 H0 G1 (M1 ++ [(r, .lst ds)]) (upd H1 r (.lst vs)) := ⟨f1.gr.transN u.2 f1.own, u.1, fun a ha => by
    unfold dom at ha
    rw [List.map_append] at ha
    rcases List.mem_append.mp ha with t | t
    · exact f1.own a t
    · have : a = r := by simpa using t
      subst this
      cases z0 : H0 a with
      | none => exact .inr rfl
      | some o => exact absurd hr (f1.gr.al a (by rw [z0]; exact fun x => nomatch x)), f1.bs⟩
  refine k r (fun hb => f1.gr.al r (f1.bs r hb) hr) σ G1 _ _ (en.up g.gg) fN.wf fun b M2 y G2 H2 h2 d2 g2 w2 yb => ?_
  have f2 := fN.step g2 w2 d2
  exact l.nx _ _ _ _ h2 ⟨G2, f2, (((en.up g.gg).up g2.gg).put (e := .ref r) rfl i).put yb j⟩
end
/-- counts that go along: what is added, what falls away -/
theorem range_shift (a : Nat) : ∀ n, List.range' (a + 1) n = (List.range' a n).map (· + 1)
  | 0 => rfl
  | n + 1 => by
    have ih := range_shift (a + 1) n
    rw [List.range'_succ, List.range'_succ, List.map_cons, ih]
theorem win_step {lo most : Nat} (h1 : 1 ≤ lo) (h2 : lo ≤ most) (k : Nat) :
    (if k = 0 then 0 else cntL lo most k) + (if lo ≤ k + 1 then cntL lo most (k + 1 - lo) else 0) - (if most < k + 1 then cntL lo most (k - most) else 0) = cntL lo most (k + 1) := by
  by_cases c : lo ≤ k + 1
  · rw [if_pos c, cntL_eq h1 (by omega : k + 1 ≠ 0)]
    obtain ⟨d, hd⟩ : ∃ d, min most (k + 1) + 1 - lo = d + 1 := ⟨min most (k + 1) - lo, by omega⟩
    rw [hd, List.range'_succ, List.map_cons, List.sum_cons, range_shift, List.map_map]
    have e0 : ((List.range' lo d).map ((fun r => cntL lo most (k + 1 - r)) ∘ (· + 1))) = (List.range' lo d).map fun r => cntL lo most (k - r) := map_congr_mem fun r _ => by
      show cntL lo most (k + 1 - (r + 1)) = _
      rw [show k + 1 - (r + 1) = k - r by omega]
    rw [e0]
    by_cases k0 : k = 0
    · subst k0
      have : d = 0 := by omega
      subst this
      rw [if_pos rfl, if_neg (by omega)]
      show 0 + cntL lo most (0 + 1 - lo) - 0 = cntL lo most (0 + 1 - lo) + 0
      omega
    · rw [if_neg k0, cntL_eq h1 k0]
      by_cases m : most < k + 1
      · rw [if_pos m, show min most k + 1 - lo = d + 1 by omega, List.range'_concat, List.map_append, List.sum_append]
        have : lo + 1 * d = most := by omega
        rw [this]
        simp only [List.map_cons, List.map_nil, List.sum_cons, List.sum_nil]
        omega
      · rw [if_neg m, show min most k + 1 - lo = d by omega]
        omega
  · rw [if_neg c, if_neg (by omega : ¬ most < k + 1), cntL_eq h1 (by omega : k + 1 ≠ 0), show min most (k + 1) + 1 - lo = 0 by omega]
    by_cases k0 : k = 0
    · rw [if_pos k0]; rfl
    · rw [if_neg k0, cntL_eq h1 k0, show min most k + 1 - lo = 0 by omega]
      rfl
end Yw

set_option Elab.async false
set_option linter.all false
set_option maxRecDepth 100000
set_option maxHeartbeats 4000000
/-! Own layer: an own error with one field: made, raised, caught, its field read. -/
namespace Yw
open PySem PySem.Spec PyProof.Rows L2
section
variable {X : Cx} {e : Expr} {es : List Expr} {ta : TA} {p pos : Pos}
end
section
variable {P : Program} {w : World} {K : PySem.W.Frag} {mg : Str → Option Value} {base : Heap} {fld qual : Str} {params : Arguments} {body : List Stmt} {scope : Scope} {fI : Addr} {fd : FuncData}
end
section
variable {K : PySem.W.Frag} {M : MM} {es : List Ent} {G H : Hp} {σ : L2.St} {Q : XK} {C : Addr} {fld : Str} {ta : TA} {x : PyData}
end
/-! ### a def that may let one own error out -/
section
variable {K : PySem.W.Frag} {es : List Ent} {C : Addr} {fld : Str} {E : XK} {x : PyData} {te : TE} {t u : TS}
end
section
variable {P : Program} {w : World} {K : PySem.W.Frag} {mg : Str → Option Value} {base : Heap} {x : Str} {st : Stmt} {N ps : List Str} {k : Nat} {R : RR} {RX : List PyData → PyData → Prop} {C : Addr} {fld : Str}
end
/-! ### raise, try, except as statements -/
section
variable {X : Cx} {W : WX} {nm fld : Str} {C fI : Addr} {e : Expr} {es : List Expr} {ta : TA} {p pos pos2 : Pos}
end
section
variable {P : Program} {w : World} {K : PySem.W.Frag} {mg : Str → Option Value} {base : Heap} {x : Str} {st : Stmt} {N ps : List Str}
end
section
variable {X : Cx} {a C : Addr} {oe : Obj} {cls : Value} {d : Option Addr} {pn : List (Addr × Obj)} {k j : Nat} {x : Str} {ps : List Str} {sp : Sp} {e : Expr} {es : List Expr} {t : TA} {p pos : Pos}
end
section
variable {K : PySem.W.Frag} {G H : Hp} {dd : Addr} {o : HO}
end
section
variable {K : PySem.W.Frag} {D0 : List Addr} {es : List Ent} {W : DE} {i j : Nat} {ta : TA} {C : Addr} {fld : Str} {R : RR} {RX : List PyData → PyData → Prop} {n : Int}
end
end Yw

set_option Elab.async false
set_option linter.all false
set_option maxRecDepth 100000
set_option maxHeartbeats 4000000
/-! Own layer: the field of 97, polynomials over it as lists, through points, weights. -/
namespace Yw
open PySem PySem.Spec PyProof.Rows L2
/-! ### the field -/
abbrev F97 := Fin 97
def fI (x : F97) : Int := (x.val : Int)
abbrev fD (x : F97) : PyData := .int (fI x)
theorem fI_lt (x : F97) : 0 ≤ fI x ∧ fI x < 97 := by
  unfold fI
  have := x.isLt
  omega
theorem fI_add (x y : F97) : (fI x + fI y) % 97 = fI (x + y) := by
  unfold fI
  rw [Fin.val_add]
  omega
theorem fI_sub (x y : F97) : (fI x - fI y) % 97 = fI (x - y) := by
  unfold fI
  rw [Fin.sub_def]
  have := x.isLt
  have := y.isLt
  show _ = (((97 - y.val + x.val) % 97 : Nat) : Int)
  omega
theorem fI_mul (x y : F97) : fI x * fI y % 97 = fI (x * y) := by
  unfold fI
  rw [Fin.val_mul, ← Int.natCast_mul]
  omega
def toF (i : Int) : F97 := ⟨(i % 97).toNat, by omega⟩
theorem toF_fI (x : F97) : toF (fI x) = x := by
  apply Fin.ext
  show ((x.val : Int) % 97).toNat = x.val
  have := x.isLt
  omega
theorem fI_toF {i : Int} (h0 : 0 ≤ i) (h1 : i < 97) : fI (toF i) = i := by
  show (((i % 97).toNat : Nat) : Int) = i
  omega
theorem fI_inj {x y : F97} (h : fI x = fI y) : x = y := by
  rw [← toF_fI x, h, toF_fI]
theorem fI_bd (x : F97) : Bd 60 (fI x) := bd97 (fI_lt x).1 (fI_lt x).2
def finv (x : F97) : F97 := ⟨Builtin.powMod x.val 95 97, inv97_lt x.val x.isLt⟩
theorem fI_inv (x : F97) : inv97 (fI x) = fI (finv x) := by
  unfold inv97 fI finv
  have := x.isLt
  rw [show (((x.val : Int) % 97).toNat) = x.val by omega]
theorem mul_inv {x : F97} (h : x ≠ 0) : x * finv x = 1 := by
  apply Fin.ext
  rw [Fin.val_mul]
  exact (inv97_all x.val x.isLt fun e => h (Fin.ext e)).2.2
theorem no_zero {x y : F97} (h : x * y = 0) (hx : x ≠ 0) : y = 0 := by
  have e := mul_inv hx
  grind
/-! ### polynomials -/
def ev : List F97 → F97 → F97
  | [], _ => 0
  | c :: cs, x => ev cs x * x + c
/-- p * (X - a), u coming in from below -/
def wzU (a : F97) : F97 → List F97 → List F97
  | u, [] => [u]
  | u, c :: cs => (u - a * c) :: wzU a c cs
def wz (p : List F97) (a : F97) : List F97 := wzU a 0 p
theorem wzU_ev (a x : F97) : ∀ (p : List F97) (u : F97), ev (wzU a u p) x = u + (x - a) * ev p x
  | [], u => by simp [wzU, ev]; grind
  | c :: cs, u => by
    simp only [wzU, ev]
    rw [wzU_ev a x cs c]
    grind
theorem wzU_len (a : F97) : ∀ (p : List F97) (u : F97), (wzU a u p).length = p.length + 1
  | [], u => rfl
  | c :: cs, u => by simp [wzU, wzU_len a cs c]
theorem wz_ev (p : List F97) (a x : F97) : ev (wz p a) x = (x - a) * ev p x := by
  unfold wz
  rw [wzU_ev]
  grind
theorem wz_len (p : List F97) (a : F97) : (wz p a).length = p.length + 1 := wzU_len a p 0
/-- one + s * other, as long as both are -/
def comb (s : F97) (p q : List F97) : List F97 := List.zipWith (fun h m => h + s * m) p q
theorem comb_ev (s x : F97) : ∀ (p q : List F97), p.length = q.length → ev (comb s p q) x = ev p x + s * ev q x
  | [], [], _ => by simp [comb, ev]; grind
  | [], _ :: _, h => by simp at h
  | _ :: _, [], h => by simp at h
  | c :: cs, d :: ds, h => by
    have ih := comb_ev s x cs ds (by simpa using h)
    simp only [comb, ev, List.zipWith_cons_cons] at ih ⊢
    rw [ih]
    grind
theorem comb_len (s : F97) (p q : List F97) (h : p.length = q.length) : (comb s p q).length = p.length := by simp [comb, h]
theorem ev_app0 (p : List F97) (x : F97) : ev (p ++ [0]) x = ev p x := by
  induction p with
  | nil => simp [ev]; grind
  | cons c cs ih => simp only [List.cons_append, ev, ih]
/-- what has as many noughts as it is long is nought -/
theorem divided (a : F97) : ∀ (cs : List F97) (c : F97), ∃ (q : List F97) (r : F97), q.length = cs.length ∧ (∀ x, ev (c :: cs) x = (x - a) * ev q x + r) ∧ ((∀ y ∈ q, y = 0) → r = 0 → ∀ y ∈ c :: cs, y = 0)
  | [], c => ⟨[], c, rfl, fun x => by simp [ev]; grind, fun _ h y hy => by rw [List.mem_singleton.mp hy]; exact h⟩
  | d :: ds, c => by
    obtain ⟨q, r, h1, h2, h3⟩ := divided a ds d
    refine ⟨r :: q, c + a * r, by rw [List.length_cons, List.length_cons, h1], fun x => ?_, fun hq hr y hy => ?_⟩
    · have e := h2 x
      show ev (d :: ds) x * x + c = _
      rw [e]
      show _ = (x - a) * (ev q x * x + r) + (c + a * r)
      grind
    · have r0 : r = 0 := hq r (List.mem_cons_self ..)
      have c0 : c = 0 := by rw [r0] at hr; grind
      rcases List.mem_cons.mp hy with e | e
      · rw [e, c0]
      · exact h3 (fun z hz => hq z (List.mem_cons_of_mem _ hz)) r0 y e
theorem noughts : ∀ (p xs : List F97), p.length = xs.length → xs.Nodup → (∀ x ∈ xs, ev p x = 0) → ∀ y ∈ p, y = 0
  | [], _, _, _, _ => fun y hy => by cases hy
  | _ :: _, [], h, _, _ => by simp at h
  | c :: cs, a :: xs, hl, hn, hz => by
    obtain ⟨q, r, h1, h2, h3⟩ := divided a cs c
    obtain ⟨n1, n2⟩ := List.nodup_cons.mp hn
    have r0 : r = 0 := by
      have e := h2 a
      rw [hz a (List.mem_cons_self ..)] at e
      grind
    refine h3 (noughts q xs (by rw [h1]; simpa using hl) n2 fun x hx => ?_) r0
    have e := h2 x
    rw [hz x (List.mem_cons_of_mem _ hx), r0] at e
    refine no_zero (x := x - a) (by grind) fun z => n1 ?_
    have : x = a := by grind
    exact this ▸ hx
theorem one_poly {p q xs : List F97} (hp : p.length = xs.length) (hq : q.length = xs.length) (hn : xs.Nodup) (h : ∀ x ∈ xs, ev p x = ev q x) : p = q := by
  have z := noughts (comb (-1) p q) xs (by rw [comb_len _ _ _ (hp.trans hq.symm), hp]) hn fun x hx => by
    rw [comb_ev _ _ _ _ (hp.trans hq.symm), h x hx]
    grind
  clear h
  have hl : p.length = q.length := hp.trans hq.symm
  clear hp hq hn
  induction p generalizing q with
  | nil => cases q with | nil => rfl | cons _ _ => simp at hl
  | cons c cs ih =>
    cases q with
    | nil => simp at hl
    | cons d ds =>
      have e1 := z (c + -1 * d) (List.mem_cons_self ..)
      have e2 := ih (q := ds) (fun y hy => z y (List.mem_cons_of_mem _ hy)) (by simpa using hl)
      have : c = d := by grind
      rw [this, e2]
/-! ### through points -/
def thrS (s : List F97 × List F97) (pt : F97 × F97) : List F97 × List F97 :=
  (comb ((pt.2 - ev s.1 pt.1) * finv (ev s.2 pt.1)) (s.1 ++ [0]) s.2, wz s.2 pt.1)
def thr (pts : List (F97 × F97)) : List F97 × List F97 := pts.foldl thrS ([], [1])
theorem thr_more {pts : List (F97 × F97)} {k : Nat} {pt : F97 × F97} (h : pts[k]? = some pt) : thr (pts.take (k + 1)) = thrS (thr (pts.take k)) pt := by
  obtain ⟨hk, e⟩ := List.getElem?_eq_some_iff.mp h
  unfold thr
  rw [List.take_succ_eq_append_getElem hk, List.foldl_append, e]
  rfl
theorem thr_len : ∀ (k : Nat) (pts : List (F97 × F97)), k ≤ pts.length → (thr (pts.take k)).1.length = k ∧ (thr (pts.take k)).2.length = k + 1
  | 0, pts, _ => by simp [thr]
  | k + 1, pts, h => by
    have hk : k < pts.length := h
    obtain ⟨i1, i2⟩ := thr_len k pts (Nat.le_of_lt hk)
    rw [thr_more (List.getElem?_eq_getElem hk)]
    unfold thrS
    refine ⟨?_, ?_⟩
    · show (comb _ _ _).length = _
      rw [comb_len _ _ _ (by rw [List.length_append, i1, i2]; rfl), List.length_append, i1]
      rfl
    · show (wz _ _).length = _
      rw [wz_len, i2]
/-- it goes through the points it has met; the other one is nought there alone -/
theorem thr_ok {pts : List (F97 × F97)} (hn : (pts.map (·.1)).Nodup) : ∀ k, k ≤ pts.length → (∀ pt ∈ pts.take k, ev (thr (pts.take k)).1 pt.1 = pt.2 ∧ ev (thr (pts.take k)).2 pt.1 = 0) ∧ ∀ x, x ∉ (pts.take k).map (·.1) → ev (thr (pts.take k)).2 x ≠ 0
  | 0, _ => ⟨fun pt h => by simp at h, fun x _ z => by
    have z : (0 : F97) * x + 1 = 0 := z
    have : (1 : F97) = 0 := by grind
    exact absurd this (by decide)⟩
  | k + 1, h => by
    have hk : k < pts.length := h
    obtain ⟨i1, i2⟩ := thr_ok hn k (Nat.le_of_lt hk)
    obtain ⟨l1, l2⟩ := thr_len k pts (Nat.le_of_lt hk)
    have hl : ((thr (pts.take k)).1 ++ [0]).length = (thr (pts.take k)).2.length := by rw [List.length_append, l1, l2]; rfl
    have new : (pts[k]).1 ∉ (pts.take k).map (·.1) := fun m => by
      have e : (pts.map (·.1)).take (k + 1) = (pts.take k).map (·.1) ++ [(pts[k]).1] := by
        rw [← List.map_take, List.take_succ_eq_append_getElem hk, List.map_append]
        rfl
      have nd := hn.sublist (List.take_sublist (k + 1) (pts.map (·.1)))
      rw [e] at nd
      exact (List.nodup_append.mp nd).2.2 _ m _ (List.mem_singleton.mpr rfl) rfl
    rw [thr_more (List.getElem?_eq_getElem hk), List.take_succ_eq_append_getElem hk]
    refine ⟨fun pt hpt => ?_, fun x hx => ?_⟩
    · rcases List.mem_append.mp hpt with m | m
      · obtain ⟨a, b⟩ := i1 pt m
        refine ⟨?_, ?_⟩
        · show ev (comb _ _ _) _ = _
          rw [comb_ev _ _ _ _ hl, ev_app0, a, b]
          grind
        · show ev (wz _ _) _ = _
          rw [wz_ev, b]
          grind
      · rw [List.mem_singleton.mp m]
        refine ⟨?_, ?_⟩
        · show ev (comb _ _ _) _ = _
          rw [comb_ev _ _ _ _ hl, ev_app0]
          have nz := mul_inv (i2 _ new)
          grind
        · show ev (wz _ _) _ = _
          rw [wz_ev]
          grind
    · rw [List.map_append] at hx
      have h1 : x ∉ (pts.take k).map (·.1) := fun m => hx (List.mem_append_left _ m)
      have h2 : x ≠ (pts[k]).1 := fun m => hx (List.mem_append_right _ (by rw [m]; exact List.mem_singleton.mpr rfl))
      show ev (wz _ _) _ ≠ _
      rw [wz_ev]
      intro z
      exact i2 x h1 (no_zero z fun w => h2 (by grind))
/-! ### weights -/
def abv (ats : List F97) (x o : F97) : F97 := ats.foldl (fun s a => if a ≠ o then s * (x - a) else s) 1
def wts (ats : List F97) (x : F97) : List F97 := ats.map fun o => abv ats x o * finv (abv ats o o)
def wsum (ws vs : List F97) : F97 := (List.zipWith (· * ·) ws vs).foldl (· + ·) 0
/-- the product of X - a, a from the list but o -/
def prodL (o : F97) : List F97 → List F97
  | [] => [1]
  | a :: as => if a ≠ o then wz (prodL o as) a else prodL o as
theorem prodL_cons (o a : F97) (as : List F97) : prodL o (a :: as) = if a ≠ o then wz (prodL o as) a else prodL o as := rfl
theorem fold_mul (o x : F97) : ∀ (as : List F97) (s : F97), as.foldl (fun s a => if a ≠ o then s * (x - a) else s) s = s * ev (prodL o as) x
  | [], s => by simp [prodL, ev]; grind
  | a :: as, s => by
    rw [List.foldl_cons, fold_mul o x as, prodL_cons]
    by_cases c : a ≠ o
    · rw [if_pos c, if_pos c, wz_ev]
      grind
    · rw [if_neg c, if_neg c]
theorem abv_ev (ats : List F97) (x o : F97) : abv ats x o = ev (prodL o ats) x := by
  unfold abv
  rw [fold_mul]
  grind
theorem prod_nz (o x : F97) : ∀ (as : List F97), (∀ a ∈ as, a ≠ o → a ≠ x) → ev (prodL o as) x ≠ 0
  | [], _ => fun z => by
    have z : (0 : F97) * x + 1 = 0 := z
    have : (1 : F97) = 0 := by grind
    exact absurd this (by decide)
  | a :: as, h => by
    have ih := prod_nz o x as fun b hb => h b (List.mem_cons_of_mem _ hb)
    rw [prodL_cons]
    by_cases c : a ≠ o
    · rw [if_pos c, wz_ev]
      intro z
      exact ih (no_zero z fun w => h a (List.mem_cons_self ..) c (by grind))
    · rw [if_neg c]; exact ih
theorem prod_z (o x : F97) (hx : x ≠ o) : ∀ (as : List F97), x ∈ as → ev (prodL o as) x = 0
  | [], h => by cases h
  | a :: as, h => by
    rw [prodL_cons]
    rcases List.mem_cons.mp h with e | e
    · subst e
      rw [if_pos hx, wz_ev]
      grind
    · have ih := prod_z o x hx as e
      by_cases c : a ≠ o
      · rw [if_pos c, wz_ev, ih]
        grind
      · rw [if_neg c]; exact ih
theorem prod_len (o : F97) : ∀ (as : List F97), as.Nodup → (prodL o as).length + (if o ∈ as then 1 else 0) = as.length + 1
  | [], _ => by simp [prodL]
  | a :: as, h => by
    obtain ⟨h1, h2⟩ := List.nodup_cons.mp h
    have ih := prod_len o as h2
    rw [prodL_cons]
    by_cases c : a ≠ o
    · rw [if_pos c, wz_len, List.length_cons]
      have : (o ∈ a :: as) = (o ∈ as) := by simp [List.mem_cons, Ne.symm c]
      simp only [this]
      omega
    · have e : a = o := by simpa using c
      subst e
      rw [if_neg c, if_pos (List.mem_cons_self ..), List.length_cons]
      rw [if_neg h1] at ih
      omega
/-- the one that goes through the points, by weights -/
def lag (ats : List F97) : List F97 → List F97 → List F97
  | o :: os, v :: vs => comb (v * finv (abv ats o o)) (lag ats os vs) (prodL o ats)
  | _, _ => List.replicate ats.length 0
theorem lag_cons (ats : List F97) (o v : F97) (os vs : List F97) : lag ats (o :: os) (v :: vs) = comb (v * finv (abv ats o o)) (lag ats os vs) (prodL o ats) := rfl
theorem ev_zeros (x : F97) : ∀ n, ev (List.replicate n 0) x = 0
  | 0 => rfl
  | n + 1 => by
    rw [List.replicate_succ]
    show ev (List.replicate n 0) x * x + 0 = 0
    rw [ev_zeros x n]
    grind
theorem plen {ats : List F97} (hn : ats.Nodup) {o : F97} (ho : o ∈ ats) : (prodL o ats).length = ats.length := by
  have := prod_len o ats hn
  rw [if_pos ho] at this
  omega
theorem lag_len {ats : List F97} (hn : ats.Nodup) : ∀ (os vs : List F97), (∀ o ∈ os, o ∈ ats) → (lag ats os vs).length = ats.length
  | [], _, _ => by simp [lag]
  | _ :: _, [], _ => by simp [lag]
  | o :: os, v :: vs, h => by
    have ih := lag_len hn os vs fun a ha => h a (List.mem_cons_of_mem _ ha)
    have e := plen hn (h o (List.mem_cons_self ..))
    rw [lag_cons]
    rw [comb_len _ _ _ (ih.trans e.symm), ih]
theorem lag_ev {ats : List F97} (hn : ats.Nodup) (x : F97) : ∀ (os vs : List F97) (s : F97), (∀ o ∈ os, o ∈ ats) → (List.zipWith (· * ·) (os.map fun o => abv ats x o * finv (abv ats o o)) vs).foldl (· + ·) s = s + ev (lag ats os vs) x
  | [], _, s, _ => by simp [lag, ev_zeros]
  | _ :: _, [], s, _ => by simp [lag, ev_zeros]
  | o :: os, v :: vs, s, h => by
    have e := plen hn (h o (List.mem_cons_self ..))
    have l := lag_len hn os vs fun a ha => h a (List.mem_cons_of_mem _ ha)
    rw [List.map_cons, List.zipWith_cons_cons, List.foldl_cons, lag_ev hn x os vs _ fun a ha => h a (List.mem_cons_of_mem _ ha)]
    rw [lag_cons]
    rw [comb_ev _ _ _ _ (l.trans e.symm), ← abv_ev]
    grind
theorem lag_at {ats : List F97} (hn : ats.Nodup) : ∀ (os vs : List F97), os.Nodup → (∀ o ∈ os, o ∈ ats) → (∀ x ∈ ats, x ∉ os → ev (lag ats os vs) x = 0) ∧ ∀ pt ∈ os.zip vs, ev (lag ats os vs) pt.1 = pt.2
  | [], _, _, _ => ⟨fun x _ _ => by simp [lag, ev_zeros], fun pt h => by simp at h⟩
  | _ :: _, [], _, _ => ⟨fun x _ _ => by simp [lag, ev_zeros], fun pt h => by simp at h⟩
  | o :: os, v :: vs, hd, h => by
    obtain ⟨d1, d2⟩ := List.nodup_cons.mp hd
    have ho := h o (List.mem_cons_self ..)
    have hs : ∀ a ∈ os, a ∈ ats := fun a ha => h a (List.mem_cons_of_mem _ ha)
    obtain ⟨i1, i2⟩ := lag_at hn os vs d2 hs
    have e := plen hn ho
    have l := lag_len hn os vs hs
    rw [lag_cons]
    refine ⟨fun x hx hno => ?_, fun pt hpt => ?_⟩
    · have x1 : x ≠ o := fun z => hno (z ▸ List.mem_cons_self ..)
      rw [comb_ev _ _ _ _ (l.trans e.symm), i1 x hx fun z => hno (List.mem_cons_of_mem _ z), prod_z o x x1 ats hx]
      grind
    · rcases List.mem_cons.mp hpt with z | z
      · subst z
        rw [comb_ev _ _ _ _ (l.trans e.symm), i1 o ho d1, abv_ev]
        have nz := mul_inv (prod_nz o o ats fun a _ c => c)
        grind
      · have m := (List.of_mem_zip (a := pt.1) (b := pt.2) z).1
        rw [comb_ev _ _ _ _ (l.trans e.symm), i2 pt z, prod_z o pt.1 (fun c => d1 (c ▸ m)) ats (hs _ m)]
        grind
/-- the weighed sum is what the polynomial has there -/
theorem wsum_ok {p ats vs : List F97} (hn : ats.Nodup) (hp : p.length = ats.length) (hv : vs = ats.map (ev p)) (x : F97) : wsum (wts ats x) vs = ev p x := by
  unfold wsum wts
  rw [lag_ev hn x ats vs 0 fun _ h => h]
  have e : lag ats ats vs = p := one_poly (lag_len hn ats vs fun _ h => h) hp hn fun y hy => by
    obtain ⟨i, hi⟩ := List.mem_iff_getElem?.mp hy
    refine (lag_at hn ats vs hn fun _ h => h).2 (y, ev p y) (List.mem_of_getElem? (i := i) (List.getElem?_zip_eq_some.mpr ⟨hi, ?_⟩))
    rw [hv, List.getElem?_map, hi]
    rfl
  rw [e]
  grind
end Yw
namespace Yw
open PySem PySem.Spec PyProof.Rows L2
/-! ### reversed of a tuple or a list, walked -/
theorem rev_at {α : Type} {xs : List α} {k : Nat} {x : α} (h : xs.reverse[k]? = some x) : k < xs.length ∧ xs[xs.length - 1 - k]? = some x := by
  have hk : k < xs.length := by
    have := (List.getElem?_eq_some_iff.mp h).1
    simpa using this
  rw [List.getElem?_reverse hk] at h
  exact ⟨hk, h⟩
section
variable {K : PySem.W.Frag} {G1 : Hp} {es : List Ent} {M : MM} {te : TE}
theorem yl_revL {a : Addr} {xs : List V} {ds : List PyData} (h : SqL K G1 a xs) (x : Rps K G1 xs ds) : Yl K G1 (Itv K a xs.length) ds.reverse := fun M G H e w => by
  have s := w.gh.l (e.l h)
  have hl := dps_len x
  refine ⟨fun k d q => ?_, ?_⟩
  · obtain ⟨hk, q⟩ := rev_at q
    obtain ⟨v, hv, r⟩ := dps_at (dpsUp e _ _ x) q
    rw [← hl] at hv hk
    refine ⟨⟨hk, xs, v, s, hv⟩, fun y H1 ⟨e1, f⟩ => ?_⟩
    subst e1
    obtain rfl := Option.some.inj (hv.symm.trans (f xs s))
    exact ⟨G, Grow.refl _ _ _, w, r⟩
  · show xs.length ≤ _
    rw [List.length_reverse, hl]
    exact Nat.le_refl _
theorem yl_revT {a : Addr} {xs : List V} {ds : List PyData} (h : SqT K G1 a xs) (x : Rps K G1 xs ds) : Yl K G1 (RT.ItvT K a xs.length) ds.reverse := fun M G H e w => by
  have s := w.gh.t (e.t h)
  have hl := dps_len x
  refine ⟨fun k d q => ?_, ?_⟩
  · obtain ⟨hk, q⟩ := rev_at q
    obtain ⟨v, hv, r⟩ := dps_at (dpsUp e _ _ x) q
    rw [← hl] at hv hk
    refine ⟨⟨hk, xs, v, s, hv⟩, fun y H1 ⟨e1, f⟩ => ?_⟩
    subst e1
    obtain rfl := Option.some.inj (hv.symm.trans (f xs s))
    exact ⟨G, Grow.refl _ _ _, w, r⟩
  · show xs.length ≤ _
    rw [List.length_reverse, hl]
    exact Nat.le_refl _
theorem iw_revA {P : List PyData → MM → Prop} (h : Ev K te es M fun e M1 => ∃ d ds, e = .dat d ∧ Sq d ds ∧ P ds.reverse M1) : Iw K (RT.iRevA K te) es M P := fun σ G H R en w k =>
  h σ G H _ en w fun e M1 v G1 H1 p d g w1 x => by
    obtain ⟨d0, ds, e, s, p⟩ := p
    subst e
    cases s with
    | lst =>
      cases x with
      | lst s a => exact ⟨_, _, rfl, .inl ⟨SqL.of (w1.gh _ _ s), k _ M1 G1 H1 _ p d g w1 (yl_revL (SqL.of s) a)⟩⟩
    | tup =>
      cases x with
      | tup s a => exact ⟨_, _, rfl, .inr ⟨w1.gh.t s, k _ M1 G1 H1 _ p d g w1 (yl_revT s a)⟩⟩
end
/-! ### promises over the field -/
def fDs (p : List F97) : List PyData := p.map fD
section
variable {K : PySem.W.Frag} {M : MM} {P : Ent → MM → Prop}
theorem c_fsumF {x y : F97} (p : P (.dat (fD (x + y))) M) : Cb K (fun vs H Q => SpQ K rFsum vs H Q E0) [.dat (fD x), .dat (fD y)] M P := c_fsum (by rw [fI_add]; exact p)
theorem c_flessF {x y : F97} (p : P (.dat (fD (x - y))) M) : Cb K (fun vs H Q => SpQ K rFless vs H Q E0) [.dat (fD x), .dat (fD y)] M P := c_fless (by rw [fI_sub]; exact p)
theorem c_fprodF {x y : F97} (p : P (.dat (fD (x * y))) M) : Cb K (fun vs H Q => SpQ K rFprod vs H Q E0) [.dat (fD x), .dat (fD y)] M P := c_fprod (fI_bd x) (fI_bd y) (by rw [fI_mul]; exact p)
theorem c_finvF {x : F97} (p : P (.dat (fD (finv x))) M) : Cb K (fun vs H Q => SpQ K rFinv vs H Q E0) [.dat (fD x)] M P := c_finv (by rw [fI_inv]; exact p)
def rValueOf : RR := fun ds po => ∃ (p : List F97) (x : F97), ds = [.tuple (fDs p), fD x] ∧ p.length ≤ 1000 ∧ po = fun r => r = fD (ev p x)
theorem c_valueOf {p : List F97} {x : F97} (hl : p.length ≤ 1000) (q : P (.dat (fD (ev p x))) M) : Cb K (fun vs H Q => SpQ K rValueOf vs H Q E0) [.dat (.tuple (fDs p)), .dat (fD x)] M P :=
  c_Q (.cons (.cons .nil)) _ ⟨p, x, rfl, hl, rfl⟩ fun r h => by rw [h]; exact q
def rWeightsAt : RR := fun ds po => ∃ (ats : List F97) (x : F97), ds = [.list (fDs ats), fD x] ∧ ats.length ≤ 900 ∧ po = fun r => r = .tuple (fDs (wts ats x))
theorem c_weightsAt {ats : List F97} {x : F97} (hl : ats.length ≤ 900) (q : P (.dat (.tuple (fDs (wts ats x)))) M) : Cb K (fun vs H Q => SpQ K rWeightsAt vs H Q E0) [.dat (.list (fDs ats)), .dat (fD x)] M P :=
  c_Q (.cons (.cons .nil)) _ ⟨ats, x, rfl, hl, rfl⟩ fun r h => by rw [h]; exact q
end
theorem fDs_at {p : List F97} {k : Nat} {d : PyData} (h : (fDs p)[k]? = some d) : ∃ c, p[k]? = some c ∧ d = fD c := by
  unfold fDs at h
  rw [List.getElem?_map] at h
  cases e : p[k]? with
  | none => rw [e] at h; cases h
  | some c => rw [e] at h; exact ⟨c, rfl, (Option.some.inj h).symm⟩
theorem fDs_len (p : List F97) : (fDs p).length = p.length := List.length_map _
/-- from the last one on -/
theorem ev_drop {p : List F97} {k : Nat} {c x : F97} (h : p.reverse[k]? = some c) : ev (p.drop (p.length - (k + 1))) x = ev (p.drop (p.length - k)) x * x + c := by
  obtain ⟨hk, e⟩ := rev_at h
  obtain ⟨hl, e⟩ := List.getElem?_eq_some_iff.mp e
  rw [show p.length - (k + 1) = p.length - 1 - k by omega, List.drop_eq_getElem_cons hl, e, show p.length - 1 - k + 1 = p.length - k by omega]
  rfl
end Yw

set_option Elab.async false
set_option linter.all false
set_option maxRecDepth 100000
set_option maxHeartbeats 4000000
/-! Own layer: zip of a tuple and a list. -/
namespace Yw
open PySem PySem.Spec PyProof.Rows L2
/-- a tuple at a, a list at b, walked together -/
def Itm (K : PySem.W.Frag) (a b : Addr) : It :=
  ⟨fun i H => ∃ (xs ys : List V) (x y : V), SqT K H a xs ∧ SqL K H b ys ∧ xs[i]? = some x ∧ ys[i]? = some y,
   fun i H v H2 => ∃ T x y, v = .ref T ∧ H T = none ∧ H2 = upd H T (.tup [x, y]) ∧ (∀ xs, SqT K H a xs → xs[i]? = some x) ∧ (∀ ys, SqL K H b ys → ys[i]? = some y),
   fun i H => ∃ xs ys : List V, SqT K H a xs ∧ SqL K H b ys ∧ i ≤ xs.length ∧ i ≤ ys.length ∧ (i = xs.length ∨ i = ys.length)⟩
def M5 (n : Nat) : List Addr := [n + 4, n + 2, n + 3, n, n + 1]
theorem m5 {n c : Nat} (h : c ∈ M5 n) : c = n + 4 ∨ c = n + 2 ∨ c = n + 3 ∨ c = n ∨ c = n + 1 := by simpa [M5] using h
def iZipM (K : PySem.W.Frag) (ta : TA) : TI := fun σ H R => ta σ H fun vs H1 => ∃ a b xs ys, vs = [.ref a, .ref b] ∧ SqT K H1 a xs ∧ SqL K H1 b ys ∧ R (Itm K a b) H1
section
variable {K : PySem.W.Frag} {G1 : Hp} {es : List Ent} {M : MM}
theorem yl_zipM {a b : Addr} {xs ys : List V} {ds cs : List PyData} (h : SqT K G1 a xs) (x : Rps K G1 xs ds) (h2 : SqL K G1 b ys) (y : Rps K G1 ys cs) : Yl K G1 (Itm K a b) (zipD ds cs) := fun M G H e w => by
  have s := w.gh.t (e.t h)
  have s2 := w.gh.l (e.l h2)
  refine ⟨fun k d q => ?_, ⟨xs, ys, s, s2, ?_⟩⟩
  · obtain ⟨p, r, hp, hr, rfl⟩ := zipD_at q
    obtain ⟨v, hv, rv⟩ := dps_at (dpsUp e _ _ x) hp
    obtain ⟨u, hu, ru⟩ := dps_at (dpsUp e _ _ y) hr
    refine ⟨⟨xs, ys, v, u, s, s2, hv, hu⟩, fun z H1 ⟨T, x1, x2, e1, n, e2, f1, f2⟩ => ?_⟩
    subst e1 e2
    obtain rfl := Option.some.inj (hv.symm.trans (f1 xs s))
    obtain rfl := Option.some.inj (hu.symm.trans (f2 ys s2))
    exact w.pair n rv ru
  · rw [zipD_len, ← dps_len x, ← dps_len y]
    omega
theorem iw_zipM {ta : TA} {P : List PyData → MM → Prop} (h : EvA K ta es M fun as M1 => ∃ ds cs : List PyData, as = [.dat (.tuple ds), .dat (.list cs)] ∧ P (zipD ds cs) M1) : Iw K (iZipM K ta) es M P := fun σ G H R en w k =>
  h σ G H _ en w fun as M1 vs G1 H1 p d g w1 x => by
    obtain ⟨ds, cs, e, p⟩ := p
    subst e
    cases x with
    | cons x1 x2 =>
      cases x2 with
      | cons x3 x4 =>
        cases x4
        cases x1 with
        | tup s a =>
          cases x3 with
          | lst s2 a2 => exact ⟨_, _, _, _, rfl, w1.gh.t s, SqL.of (w1.gh _ _ s2), k _ M1 G1 H1 _ p d g w1 (yl_zipM s a (SqL.of s2) a2)⟩
end
end Yw

namespace Yw
open PySem PySem.Spec PyProof.Rows L2
theorem wzU_at (a : F97) : ∀ (p : List F97) (u : F97) (k : Nat) (s t : F97), (u :: p)[k]? = some s → (p ++ [0])[k]? = some t → (wzU a u p)[k]? = some (s - a * t)
  | [], u, 0, s, t, h1, h2 => by
    simp only [List.getElem?_cons_zero, Option.some.injEq, List.nil_append] at h1 h2
    subst h1 h2
    show some u = some (u - a * 0)
    congr 1
    grind
  | [], u, k + 1, s, t, h1, _ => by simp at h1
  | c :: cs, u, 0, s, t, h1, h2 => by
    simp only [List.getElem?_cons_zero, Option.some.injEq, List.cons_append] at h1 h2
    subst h1 h2
    rfl
  | c :: cs, u, k + 1, s, t, h1, h2 => by
    have ih := wzU_at a cs c k s t (by simpa using h1) (by simpa using h2)
    simpa [wzU] using ih
theorem take_put {α : Type} {l : List α} {k : Nat} {x : α} (h : l[k]? = some x) : l.take k ++ [x] = l.take (k + 1) := by
  obtain ⟨hk, e⟩ := List.getElem?_eq_some_iff.mp h
  rw [List.take_succ_eq_append_getElem hk, e]
theorem fDs_put {l : List F97} {k : Nat} {x : F97} (h : l[k]? = some x) : fDs (l.take k) ++ [fD x] = fDs (l.take (k + 1)) := by
  rw [← take_put h]
  unfold fDs
  rw [List.map_append]
  rfl
theorem zip_fDs {p q : List F97} {k : Nat} {d : PyData} (h : (zipD (fDs p) (fDs q))[k]? = some d) : ∃ s t, p[k]? = some s ∧ q[k]? = some t ∧ d = .tuple [fD s, fD t] := by
  obtain ⟨a, b, h1, h2, e⟩ := zipD_at h
  obtain ⟨s, g1, rfl⟩ := fDs_at h1
  obtain ⟨t, g2, rfl⟩ := fDs_at h2
  exact ⟨s, t, g1, g2, e⟩
end Yw
namespace Yw
open PySem PySem.Spec PyProof.Rows L2
section
variable {K : PySem.W.Frag} {M : MM} {P : Ent → MM → Prop}
theorem c_lenM {p : Addr} {ds : List PyData} (hm : (p, MO.lst ds) ∈ M) (q : P (.dat (.int (ds.length : Nat))) M) : Cb K (fun xs H Q => ∃ p ys, xs = [.ref p] ∧ (SqL K H p ys ∨ SqT K H p ys) ∧ Q (.int ys.length) H) [.ref p] M P := fun vs G H Q a w r => by
  cases a with
  | cons x y =>
    cases y
    rename_i v
    obtain rfl : v = V.ref p := x
    obtain ⟨xs, hx, hd⟩ := w.mh _ hm
    exact ⟨_, _, rfl, .inl (SqL.of hx), by rw [dps_len hd]; exact r.val w q (.int _)⟩
end
/-! ### the 97 in some order -/
def rMixed : RR := fun ds po => ∃ things : List PyData, ds = [.list things] ∧ things.length ≤ 1000 ∧ po = fun r => ∃ fs, r = .list fs ∧ fs.Perm things
theorem c_mixed {K : PySem.W.Frag} {b : Addr} {C : Bag} {Mr : MM} {Q : Ent → MM → Prop} {things : List PyData} (hl : things.length ≤ 1000) (p : ∀ fs C1, fs.Perm things → Q (.dat (.list fs)) ((b, .lst (Bag.ds C1)) :: Mr)) :
    Cb K (fun vs H Q => SpD K rMixed vs H Q E0) [.ref b, .dat (.list things)] ((b, .lst (Bag.ds C)) :: Mr) Q :=
  c_D (.cons .nil) _ ⟨things, rfl, hl, rfl⟩ fun d C1 ⟨fs, e, h⟩ => by rw [e]; exact p fs C1 h
def unD (d : PyData) : F97 := match d with
  | .int i => toF i
  | _ => 0
theorem unD_fD (x : F97) : unD (fD x) = x := toF_fI x
theorem rg97 : rgD 0 97 = fDs (List.finRange 97) := by
  unfold rgD fDs
  apply List.ext_getElem?
  intro i
  rw [List.getElem?_map, List.getElem?_map]
  by_cases h : i < 97
  · rw [List.getElem?_range h, List.getElem?_eq_getElem (by rw [List.length_finRange]; exact h), List.getElem_finRange]
    show some (PyData.int (0 + (i : Int))) = some (PyData.int ((i : Nat) : Int))
    rw [Int.zero_add]
  · rw [List.getElem?_eq_none (by rw [List.length_range]; omega), List.getElem?_eq_none (by rw [List.length_finRange]; omega)]
    rfl
theorem places {fs : List PyData} (h : fs.Perm (rgD 0 97)) : ∃ xs : List F97, fs = fDs xs ∧ xs.Nodup ∧ xs.length = 97 := by
  rw [rg97] at h
  refine ⟨fs.map unD, ?_, ?_, ?_⟩
  · unfold fDs
    rw [List.map_map]
    refine ((List.map_congr_left (g := id) fun d hd => ?_).trans (List.map_id _)).symm
    obtain ⟨x, _, rfl⟩ := List.mem_map.mp (show d ∈ (List.finRange 97).map fD from h.mem_iff.mp hd)
    show fD (unD (fD x)) = _
    rw [unD_fD]
    rfl
  · have e : (fs.map unD).Perm ((fDs (List.finRange 97)).map unD) := h.map _
    have e2 : (fDs (List.finRange 97)).map unD = List.finRange 97 := by
      unfold fDs
      rw [List.map_map]
      exact (List.map_congr_left fun x _ => unD_fD x).trans (List.map_id _)
    rw [e2] at e
    exact e.nodup_iff.mpr (List.nodup_finRange 97)
  · rw [List.length_map, h.length_eq, fDs_len, List.length_finRange]
end Yw

set_option Elab.async false
set_option linter.all false
set_option maxRecDepth 100000
set_option maxHeartbeats 4000000
/-! Own layer: rows in the order of Python, the first and the last one, how many bits; t < u, min and max of a list, bit_length. -/
namespace Yw
open PySem PySem.Spec PyProof.Rows L2
/-! ### t < u -/
section
variable {K : PySem.W.Frag} {M : MM} {P : Ent → MM → Prop}
theorem ev_bits {es : List Ent} {te : TE} (h : Ev K te es M fun e M1 => ∃ i : Int, e = .dat (.int i) ∧ P (.dat (.int (Builtin.Int.intBits i : Nat))) M1) : Ev K (tBits te) es M P := fun σ G H Q en w q =>
  h σ G H _ en w fun e M1 x G1 H1 ⟨i, e1, p⟩ d g w1 xa => by
    subst e1
    cases xa
    exact ⟨i, rfl, (q.go d g).val w1 p (.int _)⟩
end
/-! ### the order of the rows -/
/-! ### the first and the last one -/
theorem cntL_nn (lo most n : Nat) : 0 ≤ cntL lo most n := by unfold cntL; omega
/-! ### bits -/
theorem bits_is {m : Int} {b : Nat} (h0 : (2 ^ b : Nat) ≤ m.toNat) (h1 : m.toNat < 2 ^ (b + 1)) (hm : 0 < m) : ((Builtin.Int.intBits m : Nat) : Int) - 1 = (b : Int) := by
  unfold Builtin.Int.intBits
  have hz : ¬ (m == 0) = true := by simp; omega
  rw [if_neg hz]
  have e : m.natAbs = m.toNat := by omega
  have l1 : m.natAbs.log2 = b := by
    rw [e]
    have nz : m.toNat ≠ 0 := by omega
    have a1 := (Nat.le_log2 nz).mpr h0
    have a2 := (Nat.log2_lt nz).mpr h1
    omega
  rw [l1]
  omega
end Yw
namespace Yw
open PySem PySem.Spec PyProof.Rows L2
/-- how many rows there are, as the program's bounds tell -/
structure BnS (lo most n : Nat) : Prop where
  h1 : 1 ≤ lo
  h2 : lo ≤ most
  h3 : most ≤ 1000
  h4 : n ≤ 2000
def cntsI (lo most n : Nat) : List Int := (List.range (n + 1)).map (cntL lo most)
theorem cnts_at {lo most n l : Nat} {i : Int} (e : i = (l : Int)) (h : l ≤ n) : atI ((cntsI lo most n).map PyData.int) i = some (.int (cntL lo most l)) := by
  subst e
  refine atI_nat ?_
  unfold cntsI
  rw [List.getElem?_map, List.getElem?_map, List.getElem?_range (by omega)]
  rfl
section
variable {K : PySem.W.Frag} {M : MM} {Q : Ent → MM → Prop} {c dr sh : PyData} {le l m d : Int}
def rMany : RR := fun ds po => ∃ c dr sh le, ∃ (lo most n : Nat), ds = [bdD c dr sh (lo : Int) (most : Int) le, .int (n : Int)] ∧ BnS lo most n ∧ po = fun r => r = .int (cntL lo most n)
theorem c_many (lo most n : Nat) (hl : l = (lo : Int)) (hm : m = (most : Int)) (hd : d = (n : Int)) (h : BnS lo most n) (p : Q (.dat (.int (cntL lo most n))) M) : Cb K (fun vs H Q => SpQ K rMany vs H Q E0) [.dat (bdD c dr sh l m le), .dat (.int d)] M Q := by
  subst hl hm hd
  exact c_Q (.cons (.cons .nil)) _ ⟨c, dr, sh, le, lo, most, n, rfl, h, rfl⟩ fun r e => by rw [e]; exact p
def rLCounts : RR := fun ds po => ∃ c dr sh le, ∃ (lo most n : Nat), ds = [bdD c dr sh (lo : Int) (most : Int) le, .int (n : Int)] ∧ BnS lo most n ∧ po = fun r => r = .list ((cntsI lo most n).map PyData.int)
theorem c_lcounts (lo most n : Nat) (hl : l = (lo : Int)) (hm : m = (most : Int)) (hd : d = (n : Int)) (h : BnS lo most n) (p : Q (.dat (.list ((cntsI lo most n).map PyData.int))) M) : Cb K (fun vs H Q => SpQ K rLCounts vs H Q E0) [.dat (bdD c dr sh l m le), .dat (.int d)] M Q := by
  subst hl hm hd
  exact c_Q (.cons (.cons .nil)) _ ⟨c, dr, sh, le, lo, most, n, rfl, h, rfl⟩ fun r e => by rw [e]; exact p
end
section
variable {K : PySem.W.Frag} {D0 : List Addr} {es : List Ent} {W : DE} {ta : TA} {C : Addr} {fld : Str} {R : RR} {RX : List PyData → PyData → Prop}
end
end Yw
namespace Yw
open PySem PySem.Spec PyProof.Rows L2
section
variable {K : PySem.W.Frag} {M : MM} {es : List Ent}
end
end Yw

set_option Elab.async false
set_option linter.all false
set_option maxRecDepth 100000
set_option maxHeartbeats 4000000
/-! Own layer: a stack that is popped, the truth of a list, rows sorted that were so, a try that keeps what it tells. -/
namespace Yw
open PySem PySem.Spec PyProof.Rows L2
section
variable {K : PySem.W.Frag} {M : MM} {es : List Ent}
variable {Mb : MM} {P : Ent → MM → Prop}
/-- a.pop() -/
theorem m_pop {Ma : MM} {p : Addr} {ds : List PyData} {d : PyData} (e : M = Ma ++ (p, .lst (ds ++ [d])) :: Mb) (q : P (.dat d) (Ma ++ (p, .lst ds) :: Mb)) : Mt K rPop (.ref p) [] M P := fun x vs G H Q a b w r => by
  obtain rfl : x = .ref p := a
  subst e
  cases b
  obtain ⟨xs, hx, hd⟩ := w.mh (p, .lst (ds ++ [d])) (by simp)
  have hl : xs.length = ds.length + 1 := by rw [dps_len hd, List.length_append]; rfl
  obtain ⟨y, hy, ry⟩ := dps_at hd (i := ds.length) (d := d) (by simp)
  have hd2 : Rps K G xs.dropLast ds := by
    have := dps_take ds.length hd
    rw [List.take_left] at this
    rw [List.dropLast_eq_take, show xs.length - 1 = ds.length by omega]
    exact this
  have c := w.chg hd2
  exact ⟨p, xs, y, rfl, rfl, hx, by rw [show xs.length - 1 = ds.length by omega]; exact hy, r _ _ _ _ _ q (by simp [dom]) c.2 c.1 ry⟩
end
/-! ### a try that keeps a new list -/
section
variable {K : PySem.W.Frag} {D0 : List Addr} {es : List Ent} {W : DE} {i : Nat} {ta : TA} {C : Addr} {fld : Str} {R : RR} {RX : List PyData → PyData → Prop} {WW : Ends → WX}
end
/-! ### isinstance of an error that is held, where it is so -/
section
variable {K : PySem.W.Frag} {x D : Addr} {ox : Obj} {od : Option Obj}
end
section
variable {K : PySem.W.Frag} {D0 : List Addr} {es : List Ent} {W : DE} {i j km : Nat} {ta : TA} {C : Addr} {fld : Str} {R : RR} {RX : List PyData → PyData → Prop} {m : Int}
end
/-! ### promises -/
section
variable {K : PySem.W.Frag} {M : MM} {Q : Ent → MM → Prop} {c dr sh : PyData} {le l m d : Int}
def bitsD (m : Int) : PyData := if 0 < m then .int ((Builtin.Int.intBits m : Nat) - 1) else .none
def rBitsIn0 : RR := fun ds po => ∃ m : Int, ds = [.int m] ∧ po = fun r => r = bitsD m
theorem c_bitsIn0 {m : Int} (p : Q (.dat (bitsD m)) M) : Cb K (fun vs H Q => SpQ K rBitsIn0 vs H Q E0) [.dat (.int m)] M Q :=
  c_Q (.cons .nil) _ ⟨m, rfl, rfl⟩ fun r e => by rw [e]; exact p
def rBitsOf0 : RR := fun ds po => ∃ c dr sh le, ∃ (lo most n : Nat), ds = [bdD c dr sh (lo : Int) (most : Int) le, .int (n : Int)] ∧ BnS lo most n ∧ po = fun r => r = bitsD (cntL lo most n)
theorem c_bitsOf0 (lo most n : Nat) (hl : l = (lo : Int)) (hm : m = (most : Int)) (hd : d = (n : Int)) (h : BnS lo most n) (p : Q (.dat (bitsD (cntL lo most n))) M) : Cb K (fun vs H Q => SpQ K rBitsOf0 vs H Q E0) [.dat (bdD c dr sh l m le), .dat (.int d)] M Q := by
  subst hl hm hd
  exact c_Q (.cons (.cons .nil)) _ ⟨c, dr, sh, le, lo, most, n, rfl, h, rfl⟩ fun r e => by rw [e]; exact p
end
end Yw

set_option Elab.async false
set_option linter.all false
set_option maxRecDepth 100000
set_option maxHeartbeats 4000000
/-! Own layer: few rows mean few at every step before (runs up to 16, up to 40 cells). -/
namespace Yw
open PySem PySem.Spec PyProof.Rows L2
/-! ### a stack of rows begun -/
end Yw

set_option Elab.async false
set_option linter.all false
set_option maxRecDepth 100000
set_option maxHeartbeats 1000000
/-! Own layer: index and membership in a tuple, rows compared, reversed(range(n)). -/
namespace Yw
open PySem PySem.Spec PyProof.Rows L2
section
variable {X : Cx}
end
section
variable {K : PySem.W.Frag} {M Mb : MM} {P : Ent → MM → Prop} {es : List Ent} {i j : Int}
/-! ### a def that tells a tuple whose object is known -/
/-! ### None or not -/
def isNone : PyData → Bool
  | .none => true
  | _ => false
theorem o_isN2 {a : PyData} (p : P (.dat (.bool (isNone a))) M) : Op2 K (fun x y H Q => y = .non ∧ Q (.bl (decide (x = .non))) H) (.dat a) (.dat .none) M P := o_isN p
theorem o_notN2 {a : PyData} (p : P (.dat (.bool (!isNone a))) M) : Op2 K (fun x y H Q => y = .non ∧ Q (.bl (!decide (x = .non))) H) (.dat a) (.dat .none) M P := o_notN (by cases a <;> exact p)
/-! ### rows compared -/
theorem eqv_int (a b : Int) : PyData.eqv (.int a) (.int b) = decide (a = b) := by
  by_cases h : a = b
  · subst h; simp [PyData.eqv]
  · simp [PyData.eqv, h]
theorem eqv_rows : ∀ a b : List Int, PyData.eqv (rowD a) (rowD b) = decide (a = b)
  | [], [] => rfl
  | [], b :: bs => rfl
  | a :: as, [] => rfl
  | a :: as, b :: bs => by
    have ih := eqv_rows as bs
    have e : PyData.eqv (rowD (a :: as)) (rowD (b :: bs)) = (PyData.eqv (.int a) (.int b) && PyData.eqv (rowD as) (rowD bs)) := rfl
    rw [e, eqv_int, ih]
    by_cases h : a = b
    · subst h; simp
    · simp [h]
theorem cut_fromG (ds : List PyData) (k : Nat) : cutY ds (some ((k : Nat) : Int)) none = ds.drop k := by
  by_cases h : k ≤ ds.length
  · exact cut_from ds h
  · unfold cutY
    rw [show HT.sIx ds.length 0 (some ((k : Nat) : Int)) = min k ds.length from HT.sIx_nat ds.length 0 k, Nat.min_eq_right (by omega), List.drop_length, List.take_nil, List.drop_eq_nil_of_le (by omega)]
theorem cut_toG (ds : List PyData) (k : Nat) : cutY ds none (some ((k : Nat) : Int)) = ds.take k := by
  by_cases h : k ≤ ds.length
  · exact cut_to ds h
  · unfold cutY
    rw [show HT.sIx ds.length ds.length (some ((k : Nat) : Int)) = min k ds.length from HT.sIx_nat ds.length ds.length k, Nat.min_eq_right (by omega), show HT.sIx ds.length 0 none = 0 from rfl, List.drop_zero, Nat.sub_zero, List.take_length, List.take_of_length_le (by omega)]
end
end Yw

set_option Elab.async false
set_option linter.all false
set_option maxRecDepth 100000
set_option maxHeartbeats 1000000
/-! Own layer: a dict with int keys that changes, isqrt, x or y of values. -/
namespace Yw
open PySem PySem.Spec PyProof.Rows L2
/-! ### tables of data -/
abbrev KVs := List (Key × PyData)
def valD (kvs : KVs) (k : Key) : Option PyData := (kvs.find? fun kv => decide (kv.1 = k)).map (·.2)
def putD (kvs : KVs) (k : Key) (v : PyData) : KVs :=
  if (kvs.any fun kv => decide (kv.1 = k)) = true then kvs.map (fun kv => if kv.1 = k then (kv.1, v) else kv) else kvs ++ [(k, v)]
theorem valD_cons (p : Key × PyData) (r : KVs) (k : Key) : valD (p :: r) k = if p.1 = k then some p.2 else valD r k := by
  unfold valD
  rw [List.find?_cons]
  by_cases h : p.1 = k <;> simp [h]
theorem valD_app (a b : KVs) (k : Key) : valD (a ++ b) k = (valD a k).or (valD b k) := by
  induction a with
  | nil => simp [valD]
  | cons p r ih =>
    rw [List.cons_append, valD_cons, valD_cons, ih]
    by_cases h : p.1 = k <;> simp [h]
theorem valD_any (kvs : KVs) (k : Key) : (kvs.any fun kv => decide (kv.1 = k)) = (valD kvs k).isSome := by
  induction kvs with
  | nil => rfl
  | cons p r ih =>
    rw [List.any_cons, valD_cons, ih]
    by_cases h : p.1 = k <;> simp [h]
theorem valD_map (kvs : KVs) (k j : Key) (v : PyData) : valD (kvs.map fun kv => if kv.1 = k then (kv.1, v) else kv) j = if j = k then (valD kvs j).map fun _ => v else valD kvs j := by
  induction kvs with
  | nil => simp [valD]
  | cons p r ih =>
    rw [List.map_cons, valD_cons, ih, valD_cons]
    by_cases h : p.1 = k
    · rw [if_pos h]
      by_cases e : j = k
      · subst e; simp [h]
      · have : ¬ p.1 = j := fun z => e (z.symm.trans h)
        simp [e, this]
    · rw [if_neg h]
      by_cases e : p.1 = j
      · have : ¬ j = k := fun z => h (e.trans z)
        simp [e, this]
      · simp [e]
theorem valD_put (kvs : KVs) (k j : Key) (v : PyData) : valD (putD kvs k v) j = if j = k then some v else valD kvs j := by
  unfold putD
  rw [valD_any]
  cases h : valD kvs k with
  | none =>
    rw [if_neg (by simp), valD_app, valD_cons]
    by_cases e : j = k
    · subst e; simp [h]
    · have : ¬ k = j := fun z => e z.symm
      cases valD kvs j <;> simp [e, this, valD]
  | some d =>
    rw [if_pos (by simp), valD_map]
    by_cases e : j = k
    · subst e; simp [h]
    · simp [e]
/-- no more keys than there may be -/
theorem nodup_lt : ∀ (n : Nat) (l : List Nat), l.Nodup → (∀ x ∈ l, x < n) → l.length ≤ n
  | 0, l, _, h => by
    cases l with
    | nil => exact Nat.le_refl _
    | cons x _ => exact absurd (h x (List.mem_cons_self ..)) (by omega)
  | n + 1, l, d, h => by
    have d2 := d.erase n
    have h2 : ∀ x ∈ l.erase n, x < n := fun x hx => by
      have m := (List.Nodup.mem_erase_iff d).mp hx
      have := h x m.2
      have := m.1
      omega
    have ih := nodup_lt n _ d2 h2
    by_cases c : n ∈ l
    · have := List.length_erase_of_mem c
      omega
    · rw [List.erase_of_not_mem c] at ih
      omega
def KeysIn (n : Nat) (kvs : KVs) : Prop := ∃ ns : List Nat, kvs.map (·.1) = ns.map (fun (i : Nat) => (Sum.inl (i : Int) : Key)) ∧ ns.Nodup ∧ ∀ x ∈ ns, x < n
theorem KeysIn.put {n : Nat} {kvs : KVs} (h : KeysIn n kvs) {i : Nat} (hi : i < n) (v : PyData) : KeysIn n (putD kvs (.inl (i : Int)) v) := by
  obtain ⟨ns, e, d, l⟩ := h
  unfold putD
  split
  · refine ⟨ns, ?_, d, l⟩
    rw [List.map_map, ← e]
    exact List.map_congr_left fun p _ => by
      show (if p.1 = Sum.inl (i : Int) then (p.1, v) else p).1 = p.1
      split <;> rfl
  · rename_i c
    refine ⟨ns ++ [i], by rw [List.map_append, List.map_append, e]; rfl, ?_, fun x hx => ?_⟩
    · refine List.nodup_append.mpr ⟨d, by simp, fun a ha b hb z => ?_⟩
      have hb : b = i := by simpa using hb
      subst hb
      subst z
      have m : (Sum.inl ((a : Nat) : Int) : Key) ∈ kvs.map (·.1) := by
        rw [e]
        exact List.mem_map.mpr ⟨a, ha, rfl⟩
      obtain ⟨q, hq, e2⟩ := List.mem_map.mp m
      exact c (List.any_eq_true.mpr ⟨q, hq, decide_eq_true e2⟩)
    · rcases List.mem_append.mp hx with hx | hx
      · exact l x hx
      · rw [List.mem_singleton.mp hx]; exact hi
theorem KeysIn.len {n : Nat} {kvs : KVs} (h : KeysIn n kvs) : kvs.length ≤ n := by
  obtain ⟨ns, e, d, l⟩ := h
  have := congrArg List.length e
  rw [List.length_map, List.length_map] at this
  have := nodup_lt n ns d l
  omega
section
variable {K : PySem.W.Frag} {G H : Hp}
abbrev KR (K : PySem.W.Frag) (G : Hp) : (Key × V) → (Key × PyData) → Prop := fun p q => p.1 = q.1 ∧ Rp K G p.2 q.2
theorem kr_val {k : Key} : ∀ {vs : List (Key × V)} {kvs : KVs}, Paired (KR K G) vs kvs → (valV vs k = none ∧ valD kvs k = none) ∨ ∃ v d, valV vs k = some v ∧ valD kvs k = some d ∧ Rp K G v d
  | _, _, .nil => .inl ⟨rfl, rfl⟩
  | p :: vs, q :: kvs, .cons r t => by
    by_cases h : q.1 = k
    · exact .inr ⟨p.2, q.2, valV_pos (r.1.trans h), by rw [valD_cons, if_pos h], r.2⟩
    · rw [valV_neg (fun z => h (r.1.symm.trans z)), valD_cons, if_neg h]
      exact kr_val t
theorem kr_any {k : Key} : ∀ {vs : List (Key × V)} {kvs : KVs}, Paired (KR K G) vs kvs → (vs.any fun kv => decide (kv.1 = k)) = kvs.any fun kv => decide (kv.1 = k)
  | _, _, .nil => rfl
  | p :: vs, q :: kvs, .cons r t => by rw [List.any_cons, List.any_cons, kr_any t, r.1]
theorem kr_map {k : Key} {v : V} {d : PyData} (x : Rp K G v d) : ∀ {vs : List (Key × V)} {kvs : KVs}, Paired (KR K G) vs kvs → Paired (KR K G) (vs.map fun kv => if kv.1 = k then (kv.1, v) else kv) (kvs.map fun kv => if kv.1 = k then (kv.1, d) else kv)
  | _, _, .nil => .nil
  | p :: vs, q :: kvs, .cons r t => by
    refine .cons ?_ (kr_map x t)
    show KR K G (if p.1 = k then (p.1, v) else p) (if q.1 = k then (q.1, d) else q)
    rw [r.1]
    by_cases h : q.1 = k
    · rw [if_pos h, if_pos h]; exact ⟨rfl, x⟩
    · rw [if_neg h, if_neg h]; exact r
theorem kr_app : ∀ {vs ws : List (Key × V)} {kvs lws : KVs}, Paired (KR K G) vs kvs → Paired (KR K G) ws lws → Paired (KR K G) (vs ++ ws) (kvs ++ lws)
  | _, _, _, _, .nil, b => b
  | _ :: _, _, _ :: _, _, .cons r t, b => .cons r (kr_app t b)
theorem kr_put {k : Key} {v : V} {d : PyData} {vs : List (Key × V)} {kvs : KVs} (h : Paired (KR K G) vs kvs) (x : Rp K G v d) : Paired (KR K G) (putK vs k v) (putD kvs k d) := by
  unfold putK putD
  rw [kr_any h]
  split
  · exact kr_map x h
  · exact kr_app h (.cons ⟨rfl, x⟩ .nil)
theorem kr_len : ∀ {vs : List (Key × V)} {kvs : KVs}, Paired (KR K G) vs kvs → vs.length = kvs.length
  | _, _, .nil => rfl
  | _ :: _, _ :: _, .cons _ t => congrArg (· + 1) (kr_len t)
/-- one dict is changed -/
theorem Wf.chgD {Ma Mb : MM} {p : Addr} {mo : MO} {vs : List (Key × V)} {kvs : KVs} (W : Wf K G (Ma ++ (p, mo) :: Mb) H) (hd : Paired (KR K G) vs kvs) :
    Wf K G (Ma ++ (p, .dct kvs) :: Mb) (upd H p (.dK vs)) ∧ Grow (dom (Ma ++ (p, mo) :: Mb)) G H G (upd H p (.dK vs)) := by
  have nd := W.nd
  have ed : dom (Ma ++ (p, MO.dct kvs) :: Mb) = dom (Ma ++ (p, mo) :: Mb) := by simp [dom]
  have hg : G p = none := W.mg (p, mo) (by simp)
  have oth : ∀ x, x ∈ Ma ∨ x ∈ Mb → x.1 ≠ p := by
    intro x hx c
    unfold dom at nd
    rw [List.map_append, List.map_cons] at nd
    have ap := List.nodup_append.mp nd
    rcases hx with q | q
    · exact ap.2.2 _ (List.mem_map.mpr ⟨x, q, rfl⟩) p (by simp) c
    · exact (List.nodup_cons.mp ap.2.1).1 (c ▸ List.mem_map.mpr ⟨x, q, rfl⟩)
  refine ⟨⟨fun a u e => ?_, fun x hx => ?_, fun x hx => ?_, by rw [ed]; exact nd⟩, ⟨Ex.rfl' G, fun _ _ => rfl, fun a u e n => ?_, fun a n => ?_⟩⟩
  · rw [upd_ne (ne_of_none e hg)]; exact W.gh a u e
  · rcases List.mem_append.mp hx with q | q
    · exact moUp (Ex.rfl' G) (upd_ne (oth x (.inl q))) (W.mh x (List.mem_append_left _ q))
    · rcases List.mem_cons.mp q with q | q
      · subst q; exact ⟨vs, upd_same, hd⟩
      · exact moUp (Ex.rfl' G) (upd_ne (oth x (.inr q))) (W.mh x (List.mem_append_right _ (List.mem_cons_of_mem _ q)))
  · rcases List.mem_append.mp hx with q | q
    · exact W.mg x (List.mem_append_left _ q)
    · rcases List.mem_cons.mp q with q | q
      · subst q; exact hg
      · exact W.mg x (List.mem_append_right _ (List.mem_cons_of_mem _ q))
  · rw [upd_ne fun z => n (by rw [z]; simp [dom])]; exact e
  · by_cases z : a = p
    · rw [z, upd_same]; exact fun x => nomatch x
    · rw [upd_ne z]; exact n
/-- a new dict that may change -/
theorem Wf.newD {M : MM} (W : Wf K G M H) {p : Addr} {vs : List (Key × V)} {kvs : KVs} (h : H p = none) (hd : Paired (KR K G) vs kvs) :
    Wf K G (M ++ [(p, .dct kvs)]) (upd H p (.dK vs)) ∧ Grow (dom M) G H G (upd H p (.dK vs)) := by
  have hg := W.none_g h
  have hm := W.none_m h
  refine ⟨⟨W.gh.tr (Ex.add h), fun x hx => ?_, fun x hx => ?_, ?_⟩, ⟨Ex.rfl' G, fun _ _ => rfl, fun a u e _ => Ex.add h a u e, fun a n => ?_⟩⟩
  · rcases List.mem_append.mp hx with q | q
    · have c : x.1 ≠ p := fun c => hm (c ▸ List.mem_map.mpr ⟨x, q, rfl⟩)
      exact moUp (Ex.rfl' G) (upd_ne c) (W.mh x q)
    · obtain rfl := List.mem_singleton.mp q
      exact ⟨vs, upd_same, hd⟩
  · rcases List.mem_append.mp hx with q | q
    · exact W.mg x q
    · obtain rfl := List.mem_singleton.mp q
      exact hg
  · show (List.map _ (M ++ _)).Nodup
    rw [List.map_append]
    exact List.nodup_append.mpr ⟨W.nd, by simp, fun a ha b hb e => by
      have hb : b = p := by simpa using hb
      subst hb
      subst e
      exact hm ha⟩
  · by_cases z : a = p
    · rw [z, upd_same]; exact fun x => nomatch x
    · rw [upd_ne z]; exact n
end
section
variable {K : PySem.W.Frag} {M Mb : MM} {P : Ent → MM → Prop} {es : List Ent} {i j : Int}
/-- d[k] -/
theorem ev_dget {td ty : TE} (h : Ev K td es M fun a M1 => Ev K ty es M1 fun b M2 => ∃ p kvs k d, a = .ref p ∧ b = .dat (.int k) ∧ (p, MO.dct kvs) ∈ M2 ∧ valD kvs (.inl k) = some d ∧ P (.dat d) M2) : Ev K (tDGet td ty) es M P := fun σ G H Q en w q =>
  h σ G H _ en w fun a M1 x G1 H1 ha e1 g1 w1 xa => ha σ G1 H1 _ (en.up g1.gg) w1 fun b M2 y G2 H2 hb e2 g2 w2 yb => by
    obtain ⟨p, kvs, k, d, rfl, rfl, hm, hv, pd⟩ := hb
    obtain rfl : x = .ref p := xa
    cases yb
    obtain ⟨vs, hx, hr⟩ := w2.mh _ hm
    rcases kr_val (k := .inl k) hr with ⟨_, c⟩ | ⟨v, d2, e, c, r⟩
    · rw [hv] at c; cases c
    · rw [hv] at c
      cases c
      exact ⟨p, v, rfl, .inl ⟨vs, .inl k, .inl hx, rfl, e.symm⟩, q _ _ _ _ _ pd (e2.trans e1) (g1.trans (by rw [e1] at g2; exact g2)) w2 r⟩
theorem ev_din {td ty : TE} (h : Ev K ty es M fun b M1 => Ev K td es M1 fun a M2 => ∃ p kvs k, a = .ref p ∧ b = .dat (.int k) ∧ (p, MO.dct kvs) ∈ M2 ∧ P (.dat (.bool (valD kvs (.inl k)).isSome)) M2) : Ev K (tDIn ty td) es M P := fun σ G H Q en w q =>
  h σ G H _ en w fun b M1 y G1 H1 hb e1 g1 w1 yb => hb σ G1 H1 _ (en.up g1.gg) w1 fun a M2 x G2 H2 ha e2 g2 w2 xa => by
    obtain ⟨p, kvs, k, rfl, rfl, hm, pd⟩ := ha
    obtain rfl : x = .ref p := xa
    cases yb
    obtain ⟨vs, hx, hr⟩ := w2.mh _ hm
    refine ⟨p, valV vs (.inl k), rfl, .inl ⟨vs, .inl k, .inl hx, rfl, rfl⟩, ?_⟩
    have : (valV vs (.inl k)).isSome = (valD kvs (.inl k)).isSome := by
      rcases kr_val (k := .inl k) hr with ⟨a, c⟩ | ⟨v, d2, e, c, r⟩
      · rw [a, c]; rfl
      · rw [e, c]; rfl
    rw [this]
    exact q _ _ _ _ _ pd (e2.trans e1) (g1.trans (by rw [e1] at g2; exact g2)) w2 (.bl _)
theorem ev_dnotin {td ty : TE} (h : Ev K ty es M fun b M1 => Ev K td es M1 fun a M2 => ∃ p kvs k, a = .ref p ∧ b = .dat (.int k) ∧ (p, MO.dct kvs) ∈ M2 ∧ P (.dat (.bool (!(valD kvs (.inl k)).isSome))) M2) : Ev K (tDNotIn ty td) es M P := fun σ G H Q en w q =>
  h σ G H _ en w fun b M1 y G1 H1 hb e1 g1 w1 yb => hb σ G1 H1 _ (en.up g1.gg) w1 fun a M2 x G2 H2 ha e2 g2 w2 xa => by
    obtain ⟨p, kvs, k, rfl, rfl, hm, pd⟩ := ha
    obtain rfl : x = .ref p := xa
    cases yb
    obtain ⟨vs, hx, hr⟩ := w2.mh _ hm
    refine ⟨p, valV vs (.inl k), rfl, .inl ⟨vs, .inl k, .inl hx, rfl, rfl⟩, ?_⟩
    have : (valV vs (.inl k)).isSome = (valD kvs (.inl k)).isSome := by
      rcases kr_val (k := .inl k) hr with ⟨a, c⟩ | ⟨v, d2, e, c, r⟩
      · rw [a, c]; rfl
      · rw [e, c]; rfl
    rw [this]
    exact q _ _ _ _ _ pd (e2.trans e1) (g1.trans (by rw [e1] at g2; exact g2)) w2 (.bl _)
/-- d[k] = v -/
theorem sj_dput {D0 : List Addr} {W : DE} {td ty tv : TE} (h : Ev K tv es M fun c M1 => Ev K td es M1 fun a M2 => Ev K ty es M2 fun b M3 => ∃ Ma Mb p kvs k d, a = .ref p ∧ b = .dat (.int k) ∧ c = .dat d ∧ M3 = Ma ++ (p, MO.dct kvs) :: Mb ∧ kvs.length ≤ 100000 ∧ W.nx es (Ma ++ (p, MO.dct (putD kvs (.inl k) d)) :: Mb)) : Sj K D0 (sDPut td ty tv) es M W := by
  intro G0 H0 σ H D ⟨G, f, en⟩ l
  refine h σ G H _ en f.wf fun c M1 z G1 H1 p1 d1 g1 w1 zc => ?_
  have f1 := f.step g1 w1 d1
  refine p1 σ G1 H1 _ (en.up g1.gg) w1 fun a M2 x G2 H2 p2 d2 g2 w2 xa => ?_
  have f2 := f1.step g2 w2 d2
  refine p2 σ G2 H2 _ ((en.up g1.gg).up g2.gg) w2 fun b M3 y G3 H3 p3 d3 g3 w3 yb => ?_
  have f3 := f2.step g3 w3 d3
  obtain ⟨Ma, Mb, p, kvs, k, d, rfl, rfl, rfl, rfl, hl, n⟩ := p3
  obtain rfl : x = .ref p := xa
  cases yb
  obtain ⟨vs, hx, hr⟩ := w3.mh (p, .dct kvs) (by simp)
  have zd := dpUp g3.gg _ _ (dpUp g2.gg _ _ zc)
  have u := w3.chgD (kr_put (k := .inl k) hr zd)
  refine ⟨p, _, rfl, .inl ⟨vs, .inl k, hx, rfl, by rw [kr_len hr]; exact Nat.lt_of_le_of_lt hl (by decide), rfl⟩, ?_⟩
  have f4 := f3.step u.2 u.1 (by simp [dom])
  exact l.nx _ _ _ _ n ⟨G3, f4, ((en.up g1.gg).up g2.gg).up g3.gg⟩
end
/-! ### isqrt -/
/-! ### x or y, x None or an int -/
section
variable {K : PySem.W.Frag} {M : MM} {P : Ent → MM → Prop} {es : List Ent}
end
end Yw

set_option Elab.async false
set_option linter.all false
set_option maxRecDepth 100000
set_option maxHeartbeats 1000000
/-! Own layer: a, b, *c = a list. -/
namespace Yw
open PySem PySem.Spec PyProof.Rows L2
section
variable {prog : Program} {w : World} {A : Around} {E : Value → Shared → Prop} {s : Shared}
end
section
variable {K : PySem.W.Frag} {M Mb : MM} {P : List Ent → MM → Prop} {es : List Ent}
end
section
variable {K : PySem.W.Frag} {M Mb : MM} {P : Ent → MM → Prop} {es : List Ent}
/-- list(range(i, j)) -/
theorem ev_listRg2 {ta tb : TE} (h : Ev K ta es M fun a M1 => Ev K tb es M1 fun b M2 => ∃ i j : Int, a = .dat (.int i) ∧ b = .dat (.int j) ∧ RgOk i j ∧ P (.dat (.list (rgD i (j - i).toNat))) M2) : Ev K (tLstRg (tRg2 ta tb)) es M P := fun σ G H Q en w q =>
  h σ G H _ en w fun a M1 x G1 H1 hp d g w1 xa => hp σ G1 H1 _ (en.up g.gg) w1 fun b M2 y G2 H2 hp2 d2 g2 w2 yb => by
    obtain ⟨i, j, rfl, rfl, ok, p⟩ := hp2
    cases xa
    cases yb
    refine ⟨i, j, rfl, rfl, ok, fun r hr => ?_⟩
    have e2 : rgV i j = ((List.range (j - i).toNat).map fun (k : Nat) => i + (k : Int)).map V.int := by
      unfold rgV
      simp
    have e3 : rgD i (j - i).toNat = ((List.range (j - i).toNat).map fun (k : Nat) => i + (k : Int)).map PyData.int := by
      unfold rgD
      simp
    rw [e2]
    rw [e3] at p
    exact ((q.go d g).go d2 g2).new w2 p (fun b c => .lst upd_same (ints_dps _)) r hr
/-- 1 << k -/
theorem o_oneShl {k : Nat} (hk : k ≤ 134217727) (p : P (.dat (.int (2 ^ k))) M) : Op2 K (fun x y H Q => ∃ k : Nat, x = .int 1 ∧ y = .int (k : Int) ∧ k ≤ 134217727 ∧ Q (.int (2 ^ k)) H) (.dat (.int 1)) (.dat (.int (k : Int))) M P := fun x y G H Q a b w r => by
  cases a
  cases b
  exact ⟨k, rfl, rfl, hk, r.val w p (.int _)⟩
/-- a, b, c = x, [..], {}, the last two of which may change -/
theorem sj_par3LD {D0 : List Addr} {W : DE} {i j k : Nat} {ta : TE} {tb : TA} (h : Ev K ta es M fun a M1 => EvA K tb es M1 fun cs M2 => ∃ ds, Ds cs ds ∧ ds.length ≤ 100000 ∧ ∀ p, p ∉ D0 → ∀ q, q ∉ D0 → W.nx (((es.set i a).set j (.ref p)).set k (.ref q)) ((M2 ++ [(p, .lst ds)]) ++ [(q, .dct [])])) :
    Sj K D0 (tPar3 i j k (tCons ta (tCons (tLst tb) (tCons tDNewK tNil)))) es M W := by
  intro G0 H0 σ H D ⟨G, f, en⟩ l
  have q : ∀ (a b c : V) (R : V → V → V → Prop), (∃ v w z, [a, b, c] = [v, w, z] ∧ R v w z) = R a b c := fun a b c R => propext ⟨fun ⟨v, w, z, e, r⟩ => by cases e; exact r, fun r => ⟨a, b, c, rfl, r⟩⟩
  simp only [tPar3, tCons, tNil, tLst, tDNewK, q]
  refine h σ G H _ en f.wf fun a M1 x G1 H1 p d g w xa => ?_
  have f1 := f.step g w d
  refine p σ G1 H1 _ (en.up g.gg) w fun cs M2 ws G2 H2 p2 d2 g2 w2 y => ?_
  obtain ⟨ds, ec, nc, p2⟩ := p2
  rw [ec.eq] at y
  have yd := EnA.dats y
  have f2 := f1.step g2 w2 d2
  refine ⟨by rw [dps_len yd]; exact Nat.le_trans nc (by decide), fun r hr => ?_⟩
  have own : ∀ {M3 : MM} {G3 H3 : Hp} {r : Addr} {mo : MO}, Far K G0 D0 H0 G3 M3 H3 → H3 r = none → ∀ a ∈ dom (M3 ++ [(r, mo)]), a ∈ D0 ∨ H0 a = none := fun {M3 G3 H3 r mo} f3 hr a ha => by
    unfold dom at ha
    rw [List.map_append] at ha
    rcases List.mem_append.mp ha with t | t
    · exact f3.own a t
    · have : a = r := by simpa using t
      subst this
      cases z0 : H0 a with
      | none => exact .inr rfl
      | some o => exact absurd hr (f3.gr.al a (by rw [z0]; exact fun x => nomatch x))
  have u := w2.newM hr yd
  have fN : Far K G0 D0 H0 G2 (M2 ++ [(r, .lst ds)]) (upd H2 r (.lst ws)) := ⟨f2.gr.transN u.2 f2.own, u.1, own f2 hr, f2.bs⟩
  intro t ht
  have u2 := u.1.newD (vs := []) (kvs := []) ht .nil
  have fN2 : Far K G0 D0 H0 G2 ((M2 ++ [(r, .lst ds)]) ++ [(t, .dct [])]) (upd (upd H2 r (.lst ws)) t (.dK [])) := ⟨fN.gr.transN u2.2 fN.own, u2.1, own fN ht, fN.bs⟩
  exact l.nx _ _ _ _ (p2 r (fun hb => f2.gr.al r (f2.bs r hb) hr) t (fun hb => fN.gr.al t (fN.bs t hb) ht)) ⟨G2, fN2, (((((en.up g.gg).up g2.gg).put (xa.up g2.gg) i).put (e := .ref r) rfl j).put (e := .ref t) rfl k)⟩
end
end Yw

set_option Elab.async false
set_option linter.all false
set_option maxRecDepth 100000
set_option maxHeartbeats 1000000
/-! Own layer: the greatest strain of all led rows is that of one leap over the turn. -/
namespace Yw
open PySem PySem.Spec PyProof.Rows L2
/-! ### phi -/
section
variable {f : Int → Int × Int} {lo most le : Nat} {T : Int}
end
/-! ### phi falls to its turn -/
/-! ### a name gets one of two new lists that may change -/
end Yw

set_option Elab.async false
set_option linter.all false
set_option maxRecDepth 100000
set_option maxHeartbeats 1000000
/-! Own layer: what a fraction stands for; PULL falls as the lead grows. -/
namespace Yw
open PySem PySem.Spec PyProof.Rows L2
section
variable {p q : Int × Int} {a b c d : Int}
end
/-! ### there is a turn -/
/-! ### PULL falls as the lead grows -/
end Yw

set_option Elab.async false
set_option linter.all false
set_option maxRecDepth 100000
set_option maxHeartbeats 1000000
/-! Own layer: a def handed to a def as its last argument. -/
namespace Yw
open PySem PySem.Spec PyProof.Rows L2
section
variable {K : PySem.W.Frag} {M : MM} {P : Ent → MM → Prop} {R : RR} {es as : List Ent} {ds : List PyData} {f0 : Addr}
end
section
variable {P : Program} {w : World} {K : PySem.W.Frag} {mg : Str → Option Value} {base : Heap} {x : Str} {st : Stmt} {N ps : List Str} {k : Nat} {R : RR} {f0 : Addr}
end
end Yw

set_option Elab.async false
set_option linter.all false
set_option maxRecDepth 100000
set_option maxHeartbeats 4000000
/-! Own layer: == and != within a comprehension; alike of any two data; str of an int; rows among data. -/
namespace Yw
open PySem PySem.Spec PyProof.Rows L2
theorem eqK {X : Cx} {K : PySem.W.Frag} (h : X.K = K) (hu : X.A.units + 64 < cLine) : OpR X (compareOp .Eq) (rEqD K) := by
  subst h
  exact op_eqD hu
/-! ### alike of any two -/
section
variable {K : PySem.W.Frag} {M : MM} {Q : Ent → MM → Prop} {d e : PyData}
end
theorem cut_mem {ds : List PyData} {lo hi : Option Int} {x : PyData} (h : x ∈ cutY ds lo hi) : x ∈ ds := List.mem_of_mem_drop (List.mem_of_mem_take h)
theorem cut_len {ds : List PyData} {lo hi : Option Int} : (cutY ds lo hi).length ≤ ds.length := by
  unfold cutY
  rw [List.length_take, List.length_drop]
  omega
theorem cut_lenK {ds : List PyData} {lo hi : Option Int} {n : Nat} (h : ds.length ≤ n) : (cutY ds lo hi).length ≤ n := Nat.le_trans cut_len h
/-! ### how long texts are -/
end Yw

set_option Elab.async false
set_option linter.all false
set_option maxRecDepth 100000
set_option maxHeartbeats 4000000
/-! Own layer: for over a list that may change, min of data (tuples), max with default=. -/
namespace Yw
open PySem PySem.Spec PyProof.Rows L2
open Sem (wp)
/-! ### for over a list that may change, but is left as it is -/
section
variable {K : PySem.W.Frag} {M : MM} {es : List Ent} {D0 : List Addr} {W : DE} {te : TE}
end
/-! ### min of what is compared over the heap that stood before -/
section
variable {prog : Program} {w : World} {A : Around} {R : Result → Shared → Prop} {I : Addr} {fp wr : List Addr} {n : Nat} {P : Nat → Value → Prop} {St : Nat → Heap → Prop} {h0 : Heap}
end
section
variable {prog : Program} {w : World} {A : Around} {E : Value → Shared → Prop} {s : Shared}
end
/-! ### the order of data -/
section
variable {K : PySem.W.Frag} {M : MM} {P : Ent → MM → Prop}
end
end Yw

set_option Elab.async false
set_option linter.all false
set_option maxRecDepth 100000
set_option maxHeartbeats 4000000
/-! Own layer: max(xs, default=n). -/
namespace Yw
open PySem PySem.Spec PyProof.Rows L2
open Sem (wp)
section
variable {prog : Program} {w : World} {A : Around} {R : Result → Shared → Prop} {I : Addr} {fp wr : List Addr} {n : Nat} {P : Nat → Value → Prop} {St : Nat → Heap → Prop}
end
section
variable {prog : Program} {w : World} {A : Around} {E : Value → Shared → Prop} {s : Shared} {Q : Value → Shared → Prop} {l : Addr} {xs : Array (Int × Tok)} {d : Value}
end
section
variable {K : PySem.W.Frag} {M : MM} {es : List Ent} {P : Ent → MM → Prop} {t tk : TA}
end
end Yw

set_option Elab.async false
set_option linter.all false
set_option maxRecDepth 100000
set_option maxHeartbeats 4000000
/-! Own layer: truth of a list that is data; membership among data. -/
namespace Yw
open PySem PySem.Spec PyProof.Rows L2
section
variable {K : PySem.W.Frag} {M : MM}
end
end Yw

set_option Elab.async false
set_option linter.all false
set_option maxRecDepth 100000
set_option maxHeartbeats 4000000
/-! Own layer: a lambda without parameters is handed to a def, which tries it; what the lambda calls lets an own error out. -/
namespace Yw
open PySem PySem.Spec PyProof.Rows L2
section
variable {K : PySem.W.Frag} {G H : Hp} {M Ma Mb : MM} {p c : Addr} {q : Str}
end
/-! ### a lambda is made -/
section
variable {X : Cx} {pins : List (Addr × Obj)} {σ : L2.St} {G H : Hp} {M : MM} {s : Shared} {c P : Addr} {params : Arguments} {body : Expr} {scope : Scope} {pos : Pos}
end
/-! ### the lambda is called -/
section
variable {X : Cx} {pins : List (Addr × Obj)} {σ : L2.St} {H : Hp} {s : Shared}
end
/-! ### x(lambda: body) -/
/-! ### a try whose first clause surely serves, whatever clauses follow -/
section
variable {X : Cx} {x n : Str} {c : Value} {i : Nat} {body suite : List Stmt} {b₀ : Stmt} {np pos pos1 : Pos} {tb : WX → TS} {ts : Addr → Value → Option Addr → TS} {more : List ExceptHandler}
end
/-! ### a def that tells whether what it got lets the error out, its field being n -/
end Yw

set_option Elab.async false
set_option linter.all false
set_option maxRecDepth 100000
set_option maxHeartbeats 4000000
/-! Own layer: a law whose def makes lambdas: its table of code objects is there from the start. -/
namespace Yw
open PySem PySem.Spec PyProof.Rows L2
section
variable {P : Program} {w : World} {K : PySem.W.Frag} {mg : Str → Option Value} {base : Heap}
end
/-- what follows is asked less -/
theorem Sj.weak {K : PySem.W.Frag} {D0 : List Addr} {t : TS} {es : List Ent} {M : MM} {W : DE} {J : List Ent → MM → Prop} (h : Sj K D0 t es M { W with nx := J }) (hj : ∀ es1 M1, J es1 M1 → W.nx es1 M1) : Sj K D0 t es M W := fun G0 H0 σ H D a l =>
  h G0 H0 σ H D a ⟨fun es1 M1 σ1 H1 p a1 => l.nx _ _ _ _ (hj _ _ p) a1, l.rt, l.bk, l.ct⟩
/-! ### the law's own call -/
section
variable {P : Program} {w : World} {K : PySem.W.Frag} {mg mb : Str → Option Value} {k : Nat} {fa a c T : Addr} {fd : FuncData} {x : Str} {s : Shared} {vs : List Value} {ns : List Int}
end
end Yw

set_option Elab.async false
set_option linter.all false
set_option maxRecDepth 100000
set_option maxHeartbeats 4000000
/-! Own layer: data of any kind, empty dicts among them: repr, comparing with an empty row. -/
namespace Yw
open PySem PySem.Spec PyProof.Rows L2
/-! ### what such data are -/
/-! ### reading them -/
section
variable {X : Cx} {pins : List (Addr × Obj)} {σ : L2.St} {G H : Hp} {s : Shared}
theorem keys_rps {K : PySem.W.Frag} {G : Hp} : ∀ ks : List Key, Rps K G (ks.map kV) (ks.map keyDt)
  | [] => .nil
  | .inl i :: ks => .cons (.int i) (keys_rps ks)
  | .inr x :: ks => .cons (.str x) (keys_rps ks)
theorem dic_parts {P : Program} {w : World} : ∀ {es : List DictEntry} {ks : List Key} {xs : List V} {vs : List (Key × Value)}, Pairs (mixKind P w) es vs → KV (ks.zip xs) vs → ks.length = xs.length → Vals (ks.map kV) (es.map (·.key)) ∧ Vals xs (es.map (·.val))
  | es, [], [], vs, hp, kv, _ => by
    have kv : Paired _ [] vs := kv
    cases kv
    cases hp
    exact ⟨.nil, .nil⟩
  | es, [], x :: xs, vs, hp, kv, l => nomatch l
  | es, k :: ks, [], vs, hp, kv, l => nomatch l
  | es, k :: ks, x :: xs, vs, hp, kv, l => by
    rw [List.zip_cons_cons] at kv
    cases kv with
    | cons r t =>
      cases hp with
      | cons a b c =>
        obtain ⟨i1, i2⟩ := dic_parts c t (by simpa using l)
        have r1 : k = _ := r.1
        have r2 : RelV x _ := r.2
        refine ⟨.cons (keyIs_rel (by rw [r1]; exact a)) i1, .cons ?_ i2⟩
        rw [← b] at r2
        exact r2
theorem siz_vals (kvs : List (PyData × PyData)) : sizeOf (kvs.map (·.2)) ≤ sizeOf kvs ∧ sizeOf (kvs.map (·.1)) ≤ sizeOf kvs := by
  induction kvs with
  | nil => exact ⟨Nat.le_refl _, Nat.le_refl _⟩
  | cons p r ih =>
    obtain ⟨k, v⟩ := p
    simp only [List.map_cons, List.cons.sizeOf_spec, Prod.mk.sizeOf_spec]
    omega
-- it reads as d, and its repr is known
mutual
theorem rp_run (I : Inv X pins σ H s) (gx : Ex G H) : ∀ (d : PyData) (v : V) (u : Value), Rp X.K G v d → RelV v u → d.showable = true → d.shown.length ≤ sizeLine →
    ∃ as, Reads s.heap u d as ∧ ∃ bs, ReadAtMost s.heap d.depth bs ∧ ReprK X.prog X.w bs s.heap d.depth u d.shown
  | .none, _, _, h, r, hs, hz => by
    cases h
    cases r
    exact ⟨_, .none, ReprK.of_reads .none hs (fun z => by simp [PyData.hasDict] at z) hz⟩
  | .bool b, _, _, h, r, hs, hz => by
    cases h
    cases r
    exact ⟨_, .bool b, ReprK.of_reads (.bool b) hs (fun z => by simp [PyData.hasDict] at z) hz⟩
  | .int i, _, _, h, r, hs, hz => by
    cases h
    obtain ⟨t, rfl⟩ := r
    exact ⟨_, .int i t, ReprK.of_reads (.int i t) hs (fun z => by simp [PyData.hasDict] at z) hz⟩
  | .str x, _, _, h, r, hs, hz => by
    cases h
    obtain ⟨t, rfl⟩ := r
    exact ⟨_, .str x t, ReprK.of_reads (.str x t) hs (fun z => by simp [PyData.hasDict] at z) hz⟩
  | .list ds, _, _, h, r, hs, hz => by
    cases h with
    | lst g ha =>
      cases r
      obtain ⟨its, rv, ⟨o, n, ho, hc, _, hd⟩, _⟩ := I.list (SqL.of (gx _ _ g))
      have lz : (listText (PyData.shownAll ds)).length ≤ sizeLine := by simpa only [PyData.shown] using hz
      obtain ⟨as, rd, bs, rb, rk⟩ := rps_run I gx ds _ its ha rv (by simpa [PyData.showable] using hs) fun t ht => Nat.le_trans (listText_mem_le ht) lz
      have whole := Reads.list ho hc hd rd
      have out := not_mem_of_deeper whole (n := PyData.depthAll ds) (by simp only [PyData.depth]; omega) rb
      refine ⟨_, whole, _, ReadAtMost.cons whole (by simp only [PyData.depth]; omega) rb, ?_⟩
      simp only [PyData.depth, PyData.shown]
      cases its with
      | nil =>
        have e : PyData.shownAll ds = [] := by
          cases rd
          simp only [PyData.shownAll]
        rw [e, listText_nil]
        exact ReprK.listEmpty ho hc hd
      | cons y l => exact ReprK.list ho hc hd out (by simpa using rk.length_eq) fun i z e => rk.item i z (by simpa using e)
  | .tuple ds, _, _, h, r, hs, hz => by
    cases h with
    | tup g ha =>
      cases r
      have g2 : SqT X.K H _ _ := gx.t g
      obtain ⟨its, rv, ⟨o, ho, hc, n, hd⟩, _⟩ := I.tuple g2
      have lz : (tupleText (PyData.shownAll ds)).length ≤ sizeLine := by simpa only [PyData.shown] using hz
      obtain ⟨as, rd, bs, rb, rk⟩ := rps_run I gx ds _ its ha rv (by simpa [PyData.showable] using hs) fun t ht => Nat.le_trans (tupleText_mem_le ht) lz
      have whole := Reads.tuple ho hc hd rd
      have out := not_mem_of_deeper whole (n := PyData.depthAll ds) (by simp only [PyData.depth]; omega) rb
      refine ⟨_, whole, _, ReadAtMost.cons whole (by simp only [PyData.depth]; omega) rb, ?_⟩
      simp only [PyData.depth, PyData.shown]
      exact ReprK.tuple ho hc hd out rk
  | .dict kvs, _, _, h, r, hs, hz => by
    cases h with
    | @dic a ks xs _ g l k ha =>
      cases r
      obtain ⟨_, sy, vs, kv, o, es, ep, ho, hx, hd, _, hp, _⟩ := (rdUp gx g).ok I.hok
      obtain ⟨v1, v2⟩ := dic_parts hp kv l
      have hz' : (dictText (PyData.shownKv kvs)).length ≤ sizeLine := by simpa only [PyData.shown] using hz
      obtain ⟨hs1, hs2⟩ := PyData.showableKv_split kvs (by simpa [PyData.showable] using hs)
      have kr : Rps X.K G (ks.map kV) (kvs.map (·.1)) := by rw [k]; exact keys_rps ks
      have sz := siz_vals kvs
      obtain ⟨as, rd, b1, hb1, k1⟩ := rps_run I gx (kvs.map (·.1)) _ _ kr v1 hs1 (fun t ht => let ⟨p, hp, hl⟩ := PyData.shownKv_key_le kvs t ht; Nat.le_trans hl (Nat.le_trans (dictText_mem_le hp) hz'))
      obtain ⟨as2, rd2, b2, hb2, k2⟩ := rps_run I gx (kvs.map (·.2)) _ _ ha v2 hs2 (fun t ht => let ⟨p, hp, hl⟩ := PyData.shownKv_val_le kvs t ht; Nat.le_trans hl (Nat.le_trans (dictText_mem_le hp) hz'))
      have whole : Reads s.heap (.ref a) (.dict kvs) _ := Reads.dict ho hx.1 hd rd rd2
      have hb : ReadAtMost s.heap (PyData.depthKv kvs) (b1 ++ b2) := (hb1.mono (PyData.depthAll_keys_le kvs)).append (hb2.mono (PyData.depthAll_vals_le kvs))
      have out : a ∉ b1 ++ b2 := not_mem_of_deeper whole (by simp only [PyData.depth]; omega) hb
      refine ⟨_, whole, _, ReadAtMost.cons whole (by simp only [PyData.depth]; omega) hb, ?_⟩
      simp only [PyData.depth, PyData.shown, PyData.shownKv_eq]
      exact ReprK.dict ho hx.1 hd sy out (ReprEntriesK.of_two es.toList _ _ (k1.more_le (fun b hb => List.mem_append_left _ hb) (PyData.depthAll_keys_le kvs)) (k2.more_le (fun b hb => List.mem_append_right _ hb) (PyData.depthAll_vals_le kvs)))
termination_by d => sizeOf d
theorem rps_run (I : Inv X pins σ H s) (gx : Ex G H) : ∀ (ds : List PyData) (vs : List V) (us : List Value), Rps X.K G vs ds → Vals vs us → PyData.showableAll ds = true → (∀ t ∈ PyData.shownAll ds, t.length ≤ sizeLine) →
    ∃ as, ReadsAll s.heap us ds as ∧ ∃ bs, ReadAtMost s.heap (PyData.depthAll ds) bs ∧ ReprAllK X.prog X.w bs s.heap (PyData.depthAll ds) us (PyData.shownAll ds)
  | [], _, _, h, r, _, _ => by
    cases h
    cases r
    exact ⟨_, .nil, [], (fun _ z => nomatch z), by simp only [PyData.shownAll]; exact .nil⟩
  | d :: ds, _, _, h, r, hs, hz => by
    cases h with
    | cons h1 h2 =>
      cases r with
      | cons r1 r2 =>
        have hs : d.showable = true ∧ PyData.showableAll ds = true := by simpa [PyData.showableAll] using hs
        simp only [PyData.shownAll] at hz
        obtain ⟨as1, rd1, bs1, rb1, rk1⟩ := rp_run I gx d _ _ h1 r1 hs.1 (hz _ List.mem_cons_self)
        obtain ⟨as2, rd2, bs2, rb2, rk2⟩ := rps_run I gx ds _ _ h2 r2 hs.2 fun t ht => hz t (List.mem_cons_of_mem _ ht)
        refine ⟨_, .cons rd1 rd2, bs1 ++ bs2, (rb1.mono ?_).append (rb2.mono ?_), ?_⟩
        · simp only [PyData.depthAll]; exact Nat.le_max_left _ _
        · simp only [PyData.depthAll]; exact Nat.le_max_right _ _
        · simp only [PyData.depthAll, PyData.shownAll]
          exact .cons ((rk1.more fun b hb => List.mem_append_left _ hb).level_le (Nat.le_max_left _ _)) (rk2.more_le (fun b hb => List.mem_append_right _ hb) (Nat.le_max_right _ _))
termination_by ds => sizeOf ds
end
end
/-! ### repr -/
def rShowE (K : PySem.W.Frag) : List V → Hp → VK → Prop := fun xs H Q => ∃ x d G, xs = [x] ∧ Ex G H ∧ Rp K G x d ∧ d.showable = true ∧ d.depth ≤ 60 ∧ d.shown.length ≤ sizeLine ∧ Q (.str d.shown) H
theorem call_showE {X : Cx} (gd : X.A.guards = some []) (hu : X.A.units + 66 < cLine) : CallR X (.builtin "repr") (rShowE X.K) := by
  intro pins s σ H xs us Q I r h
  obtain ⟨x, d, G, rfl, gx, hd, sw, dep, sz, q⟩ := h
  cases r with
  | cons r1 r2 =>
    cases r2
    rename_i u
    have keep : ∀ (h1 : Heap) (t : Tok) (tk : Nat), (∀ b o, s.heap.get? b = some o → h1.get? b = some o) → EP X pins σ Q (.str d.shown t) { s with heap := h1, toks := tk } := fun h1 t tk k => ⟨.str d.shown, H, I.kept k, ⟨t, rfl⟩, q⟩
    cases hd with
    | non => cases r1; exact P.repr_of_none ⟨.str _, H, I.tok _, ⟨_, rfl⟩, q⟩
    | bl b => cases r1; exact P.repr_of_bool ⟨.str _, H, I.tok _, ⟨_, rfl⟩, q⟩
    | int i =>
      obtain ⟨t, rfl⟩ := r1
      exact P.repr_of_int (of_decide_eq_true sw) ⟨.str _, H, I.tok _, ⟨_, rfl⟩, q⟩
    | str y =>
      obtain ⟨t, rfl⟩ := r1
      exact P.repr_of_str ⟨.str _, H, I.tok _, ⟨_, rfl⟩, q⟩ sz
    | @lst a ys ds g ha =>
      cases r1
      obtain ⟨its, rv, ⟨o, n, ho, hc, _, hdd⟩, _⟩ := I.list (SqL.of (gx _ _ g))
      have lz : (listText (PyData.shownAll ds)).length ≤ sizeLine := by simpa only [PyData.shown] using sz
      obtain ⟨as, rd, bs, rb, rk⟩ := rps_run I gx ds _ its ha rv (by simpa [PyData.showable] using sw) fun t ht => Nat.le_trans (listText_mem_le ht) lz
      have out := not_mem_of_deeper (Reads.list ho hc hdd rd) (n := PyData.depthAll ds) (by simp only [PyData.depth]; omega) rb
      simp only [PyData.depth] at dep
      refine call_repr_slot (by omega) ⟨o, ho, hc⟩ F.slot_list_repr.toG ?_
      cases its with
      | nil =>
        have e : PyData.shownAll ds = [] := by
          cases rd
          simp only [PyData.shownAll]
        refine call_list_repr_empty ⟨o, ho, hc⟩ ho hdd ⟨_, _, rfl, ?_⟩
        have := keep s.heap s.toks (s.toks + 1) fun _ _ e => e
        simpa only [PyData.shown, e, listText_nil] using this
      | cons y l => exact call_list_reprK (A := X.A.in1) ho hc hdd out (by simpa using rk.length_eq) (fun i z e => rk.item i z (by simpa using e)) gd (fun b _ => Clear.nil b) (by show X.A.units + 1 + _ < _; omega) (fun _ _ e => e) (fun h1 t tk k => ⟨_, _, rfl, by simpa only [PyData.shown] using keep h1 t tk k⟩) lz
    | @tup a ys ds g ha =>
      cases r1
      have g2 : SqT X.K H _ _ := gx.t g
      obtain ⟨its, rv, ⟨o, ho, hc, n, hdd⟩, _⟩ := I.tuple g2
      have lz : (tupleText (PyData.shownAll ds)).length ≤ sizeLine := by simpa only [PyData.shown] using sz
      obtain ⟨as, rd, bs, rb, rk⟩ := rps_run I gx ds _ its ha rv (by simpa [PyData.showable] using sw) fun t ht => Nat.le_trans (tupleText_mem_le ht) lz
      have out := not_mem_of_deeper (Reads.tuple ho hc hdd rd) (n := PyData.depthAll ds) (by simp only [PyData.depth]; omega) rb
      simp only [PyData.depth] at dep
      refine call_repr_slot (by omega) ⟨o, ho, hc⟩ F.slot_tuple_repr ?_
      exact call_tuple_reprK (A := X.A.in1) ho hc hdd out rk gd (fun b _ => Clear.nil b) (by show X.A.units + 1 + _ < _; omega) (fun _ _ e => e) (fun h1 t tk k => ⟨_, _, rfl, by simpa only [PyData.shown] using keep h1 t tk k⟩) lz
    | @dic a ks xs kvs g l k ha =>
      cases r1
      obtain ⟨_, sy, vs, kv, o, es, ep, ho, hx, hd, _, hp, _⟩ := (rdUp gx g).ok I.hok
      obtain ⟨v1, v2⟩ := dic_parts hp kv l
      have hz' : (dictText (PyData.shownKv kvs)).length ≤ sizeLine := by simpa only [PyData.shown] using sz
      obtain ⟨hs1, hs2⟩ := PyData.showableKv_split kvs (by simpa [PyData.showable] using sw)
      have kr : Rps X.K G (ks.map kV) (kvs.map (·.1)) := by rw [k]; exact keys_rps ks
      obtain ⟨as, rd, b1, hb1, k1⟩ := rps_run I gx (kvs.map (·.1)) _ _ kr v1 hs1 (fun t ht => let ⟨p, hp, hl⟩ := PyData.shownKv_key_le kvs t ht; Nat.le_trans hl (Nat.le_trans (dictText_mem_le hp) hz'))
      obtain ⟨as2, rd2, b2, hb2, k2⟩ := rps_run I gx (kvs.map (·.2)) _ _ ha v2 hs2 (fun t ht => let ⟨p, hp, hl⟩ := PyData.shownKv_val_le kvs t ht; Nat.le_trans hl (Nat.le_trans (dictText_mem_le hp) hz'))
      have whole : Reads s.heap (.ref a) (.dict kvs) _ := Reads.dict ho hx.1 hd rd rd2
      have hb : ReadAtMost s.heap (PyData.depthKv kvs) (b1 ++ b2) := (hb1.mono (PyData.depthAll_keys_le kvs)).append (hb2.mono (PyData.depthAll_vals_le kvs))
      have out : a ∉ b1 ++ b2 := not_mem_of_deeper whole (by simp only [PyData.depth]; omega) hb
      simp only [PyData.depth] at dep
      refine call_repr_slot (by omega) ⟨o, ho, hx.1⟩ F.slot_dict_repr ?_
      exact call_dict_reprK (A := X.A.in1) ho hx.1 hd sy out (ReprEntriesK.of_two es.toList _ _ (k1.more_le (fun b hb => List.mem_append_left _ hb) (PyData.depthAll_keys_le kvs)) (k2.more_le (fun b hb => List.mem_append_right _ hb) (PyData.depthAll_vals_le kvs))) gd (fun b _ => Clear.nil b) (by show X.A.units + 1 + _ < _; omega) (fun _ _ e => e) (fun h1 t tk k => ⟨_, _, rfl, by simpa only [PyData.shown, PyData.shownKv_eq] using keep h1 t tk k⟩) (by rw [← PyData.shownKv_eq]; exact hz')
section
variable {K : PySem.W.Frag} {M : MM} {P : Ent → MM → Prop}
end
/-! ### beside an empty row -/
section
variable {K : PySem.W.Frag} {M : MM} {P : Ent → MM → Prop}
end
/-! ### what values are -/
section
variable {K : PySem.W.Frag} {M : MM} {Q : Ent → MM → Prop} {d : PyData}
end
end Yw

set_option Elab.async false
set_option linter.all false
set_option maxRecDepth 100000
set_option maxHeartbeats 1000000
set_option exponentiation.threshold 20000
/-! Own layer: a tuple of ints of the module's own top; calls that may let an own error out, in a def that lets it out too; a lambda that hands three things on. -/
namespace Yw
open PySem PySem.Spec PyProof.Rows L2
section
variable {K : PySem.W.Frag} {M : MM} {P : Ent → MM → Prop} {es : List Ent}
end
section
variable {K : PySem.W.Frag} {M : MM} {P : Ent → MM → Prop} {es : List Ent} {C : Addr} {fld : Str} {R : RR} {RX : List PyData → PyData → Prop} {ta : TA} {E : XK} {x : PyData} {u r : TS}
end
end Yw

set_option Elab.async false
set_option linter.all false
set_option maxRecDepth 100000
set_option maxHeartbeats 1000000
set_option exponentiation.threshold 20000
/-! Own mathematics: steps by which two rides are drawn apart. -/
namespace Yw
/-! ### steps that stay near each other -/
/-! ### a swing; swings by turns; the steps that follow -/
def sw (most : Nat) (e : Int) : List Int := if most = 1 then [e] else (List.range most).map fun (k : Nat) => e * (2 * (k : Int) - most + 1)
def ahead (most : Nat) (e : Int) : Nat → List Int
  | 0 => []
  | n + 1 => sw most (if n % 2 = 0 then e else -e) ++ ahead most e n
/-! ### all steps -/
/-- what the steps are made of: T cells strained, nb RUNS of most ahead of these -/
structure Drawn (most nb T : Nat) (dr sh pn : Int) : Prop where
  m1 : 1 ≤ most
  t1 : 1 ≤ T
  d0 : 0 ≤ dr
  s0 : 0 ≤ sh
  hp : (T : Int) * pn = 4 * sh + dr * ((T : Int) * ((T : Int) - 1))
  low : -(dr * ((most : Int) - 1)) ≤ pn - 2 * dr * ((T : Int) - 1)
  hi : 1 ≤ nb → pn - 2 * dr * ((T : Int) - 1) ≤ dr * ((most : Int) + 1)
section
variable {most nb T : Nat} {dr sh pn : Int} (h : Drawn most nb T dr sh pn) (run : Nat)
include h
end
end Yw

set_option Elab.async false
set_option linter.all false
set_option maxRecDepth 100000
set_option maxHeartbeats 4000000
/-! Own layer: zip of a list and a tuple. -/
namespace Yw
open PySem PySem.Spec PyProof.Rows L2
section
variable {K : PySem.W.Frag} {G1 : Hp} {es : List Ent} {M : MM}
end
end Yw

set_option Elab.async false
set_option linter.all false
set_option maxRecDepth 100000
set_option maxHeartbeats 1000000
/-! Own layer: a dict with int keys as data. -/
namespace Yw
open PySem PySem.Spec PyProof.Rows L2
/-- the keys of a dict, known or not, as a new list -/
def rListDR : List V → Hp → VK → Prop := fun vs H Q => ∃ d l, vs = [.ref d] ∧ Rd H d (.dK l) ∧ ∀ q, H q = none → Q (.ref q) (upd H q (.lst (l.map fun p => kV p.1)))
theorem list_keysR {X : Cx} (calm : X.calm = true) : CallR X (.type "list") rListDR := by
  rintro pins st σ H vs us Q I rv ⟨d, l, rfl, rd, k⟩
  obtain ⟨u, rfl, ru⟩ := vals1 rv
  obtain rfl : u = Value.ref d := ru
  obtain ⟨big, no, es, pr, dd⟩ := (show ObjOk X.prog X.w H st.heap d (.dK l) from rd.ok I.hok)
  obtain ⟨ep, place⟩ := dd.dictAt
  have len := Paired.length pr
  refine PySem.W.kdl_call (PySem.W.kdl_dict (knd := mixKind X.prog X.w) (kvs := es) (ep := ep) no) (I.ok.hd calm) place (by rw [← len]; exact big) fun h1 tk1 out c1 keep1 put1 said => ?_
  refine ⟨.ref st.heap.objs.size, _, I.laid keep1 (Nat.le_refl _) (show ObjOk X.prog X.w _ _ _ (.lst (l.map fun p => kV p.1)) from ⟨?_, out.toList, c1, ?_, ?_⟩), rfl, k _ (I.hok.fresh (Nat.le_refl _))⟩
  · rw [List.length_map]
    exact big
  · refine vals_of_at (by
      have sz := said.1
      rw [List.length_map, len, ← sz]
      simp) fun j x u hx hu => ?_
    obtain ⟨key, y, hk, hi⟩ := said.2 j u (by rw [← Array.getElem?_toList]; exact hu)
    have e1 : (l.map (·.1))[j]? = some key := by
      rw [KV.keys pr, List.getElem?_map, hk]
      rfl
    rw [show (l.map fun p => kV p.1) = (l.map (·.1)).map kV by rw [List.map_map]; rfl, List.getElem?_map, e1] at hx
    cases hx
    exact keyIs_rel hi
  · rw [Array.toArray_toList]
    exact put1
abbrev IVs := List (Int × PyData)
/-- a dict with int keys, as data -/
def dicI (kvs : IVs) : PyData := .dict (kvs.map fun p => (.int p.1, p.2))
def getI (kvs : IVs) (k : Int) : Option PyData := (kvs.find? fun p => decide (p.1 = k)).map (·.2)
def keysI (kvs : IVs) : List Key := kvs.map fun p => (Sum.inl p.1 : Key)
theorem getI_cons (p : Int × PyData) (r : IVs) (k : Int) : getI (p :: r) k = if p.1 = k then some p.2 else getI r k := by
  unfold getI
  rw [List.find?_cons]
  by_cases h : p.1 = k <;> simp [h]
theorem keys_inl : ∀ {kvs : IVs} {ks : List Key}, ((kvs.map fun p => (PyData.int p.1, p.2)).map (·.1)) = ks.map keyDt → ks = keysI kvs
  | [], ks, h => List.map_eq_nil_iff.mp h.symm
  | p :: r, [], h => nomatch h
  | p :: r, k :: ks, h => by
    simp only [List.map_cons, List.cons.injEq] at h
    have e := keys_inl (kvs := r) (ks := ks) h.2
    cases k with
    | inl i =>
      have e1 : p.1 = i := by
        have := h.1
        exact PyData.int.inj this
      rw [e, ← e1]
      rfl
    | inr x => exact absurd h.1 (by intro z; cases z)
section
variable {K : PySem.W.Frag} {G : Hp}
theorem rp_dicI {v : V} {kvs : IVs} (h : Rp K G v (dicI kvs)) : ∃ a xs, v = .ref a ∧ Rd G a (.dK ((keysI kvs).zip xs)) ∧ xs.length = kvs.length ∧ Rps K G xs (kvs.map (·.2)) := by
  unfold dicI at h
  generalize e : (kvs.map fun p => (PyData.int p.1, p.2)) = l at h
  cases h with
  | @dic a ks xs _ g hl hk hr =>
    subst e
    have ek := keys_inl hk
    subst ek
    have hl2 : xs.length = kvs.length := by
      rw [← hl]
      exact List.length_map _
    refine ⟨a, xs, rfl, g, hl2, ?_⟩
    rwa [List.map_map] at hr
theorem dicI_rp {a : Addr} {xs : List V} {kvs : IVs} (g : Rd G a (.dK ((keysI kvs).zip xs))) (hl : xs.length = kvs.length) (hr : Rps K G xs (kvs.map (·.2))) : Rp K G (.ref a) (dicI kvs) := by
  refine .dic (ks := keysI kvs) (xs := xs) g ?_ ?_ ?_
  · rw [hl]
    exact List.length_map _
  · unfold keysI
    rw [List.map_map, List.map_map]
    rfl
  · rw [List.map_map]
    exact hr
theorem val_dicI {k : Int} : ∀ {kvs : IVs} {xs : List V}, Rps K G xs (kvs.map (·.2)) → (valV ((keysI kvs).zip xs) (.inl k) = none ∧ getI kvs k = none) ∨ ∃ v d, valV ((keysI kvs).zip xs) (.inl k) = some v ∧ getI kvs k = some d ∧ Rp K G v d
  | [], _, h => .inl ⟨by cases h; rfl, rfl⟩
  | p :: r, _, h => by
    cases h with
    | @cons v vs d ds h1 h2 =>
      have ez : (keysI (p :: r)).zip (v :: vs) = ((Sum.inl p.1 : Key), v) :: (keysI r).zip vs := rfl
      rw [ez]
      by_cases e : p.1 = k
      · exact .inr ⟨v, p.2, valV_pos (congrArg Sum.inl e), by rw [getI_cons, if_pos e], h1⟩
      · rw [valV_neg (fun z => e (Sum.inl.inj z)), getI_cons, if_neg e]
        exact val_dicI h2
end
section
variable {K : PySem.W.Frag} {M : MM} {P : Ent → MM → Prop} {es : List Ent}
/-- known[k] of a dict that is data -/
theorem ev_dgetD {td ty : TE} (h : Ev K td es M fun a M1 => Ev K ty es M1 fun b M2 => ∃ kvs k d, a = .dat (dicI kvs) ∧ b = .dat (.int k) ∧ getI kvs k = some d ∧ P (.dat d) M2) : Ev K (tDGet td ty) es M P := fun σ G H Q en w q =>
  h σ G H _ en w fun a M1 x G1 H1 ha e1 g1 w1 xa => ha σ G1 H1 _ (en.up g1.gg) w1 fun b M2 y G2 H2 hb e2 g2 w2 yb => by
    obtain ⟨kvs, k, d, rfl, rfl, hv, pd⟩ := hb
    obtain ⟨p, xs, rfl, gp, hl, hr⟩ := rp_dicI (dpUp g2.gg _ _ xa)
    cases yb
    rcases val_dicI (k := k) hr with ⟨_, c⟩ | ⟨v, d2, e, c, r⟩
    · rw [hv] at c; cases c
    · rw [hv] at c
      cases c
      exact ⟨p, v, rfl, .inl ⟨_, .inl k, rdUp w2.gh gp, rfl, e.symm⟩, q _ _ _ _ _ pd (e2.trans e1) (g1.trans (by rw [e1] at g2; exact g2)) w2 r⟩
/-- list(known): its keys -/
theorem c_listDk {kvs : IVs} (p : P (.dat (.list (kvs.map fun q => PyData.int q.1))) M) : Cb K rListDR [.dat (dicI kvs)] M P := fun vs G H Q a w r => by
  cases a with
  | cons x y =>
    cases y
    obtain ⟨p0, xs, rfl, gp, hl, hr⟩ := rp_dicI x
    refine ⟨p0, _, rfl, rdUp w.gh gp, fun q hq => ?_⟩
    have e : (((keysI kvs).zip xs).map fun kv => kV kv.1) = (kvs.map fun q => q.1).map V.int := by
      have h1 : (((keysI kvs).zip xs).map fun kv => kV kv.1) = (((keysI kvs).zip xs).map (·.1)).map kV := by rw [List.map_map]; rfl
      rw [h1, List.map_fst_zip (by unfold keysI; rw [List.length_map]; omega)]
      unfold keysI
      rw [List.map_map, List.map_map]
      rfl
    rw [e]
    have e3 : (kvs.map fun q => PyData.int q.1) = (kvs.map fun q => q.1).map PyData.int := by rw [List.map_map]; rfl
    rw [e3] at p
    exact r.new w p (fun b c => .lst upd_same (ints_dps _)) q hq
theorem keys_zip {kvs : IVs} {xs : List V} (hl : xs.length = kvs.length) : (((keysI kvs).zip xs).map (·.1)) = (kvs.map (·.1)).map Sum.inl := by
  rw [List.map_fst_zip (by unfold keysI; rw [List.length_map]; omega)]
  unfold keysI
  rw [List.map_map]
  rfl
/-- sorted(known): its keys in order -/
theorem c_sortDk {kvs : IVs} (h : kvs.length < 64) (p : ∀ ys : List Int, ys.Perm (kvs.map (·.1)) → ys.Pairwise (· ≤ ·) → P (.dat (.list (ys.map PyData.int))) M) :
    Cb K (fun xs H Q => ∃ (a : Addr) (kvs : List (Key × V)) (ks : List Int), xs = [.ref a] ∧ Rd H a (.dK kvs) ∧ kvs.map (·.1) = ks.map Sum.inl ∧ ks.length < 64 ∧ ∀ (ys : List Int) (p : Addr), ys.Perm ks → ys.Pairwise (· ≤ ·) → H p = none → Q (.ref p) (upd H p (.lst (ys.map V.int)))) [.dat (dicI kvs)] M P := fun vs G H Q a w r => by
  cases a with
  | cons x y =>
    cases y
    obtain ⟨p0, xs, rfl, gp, hl, hr⟩ := rp_dicI x
    exact ⟨p0, _, kvs.map (·.1), rfl, rdUp w.gh gp, keys_zip hl, by rw [List.length_map]; exact h, fun ys q h1 h2 hq => r.new w (p ys h1 h2) (fun b c => .lst upd_same (ints_dps _)) q hq⟩
theorem pairs_parts {G H : Hp} (e : Ex G H) : ∀ {kvs : IVs} {xs : List V}, Rps K G xs (kvs.map fun p => PyData.tuple [.int p.1, p.2]) → ∃ (ps : List Addr) (vs : List V), xs = ps.map V.ref ∧ Paired (fun (p : Addr) (kv : Key × V) => SqT K H p [kV kv.1, kv.2]) ps ((keysI kvs).zip vs) ∧ vs.length = kvs.length ∧ Rps K G vs (kvs.map (·.2))
  | [], _, h => by cases h; exact ⟨[], [], rfl, .nil, rfl, .nil⟩
  | p :: r, _, h => by
    cases h with
    | @cons x xs d ds h1 h2 =>
      obtain ⟨ps, vs, e1, e2, e3, e4⟩ := pairs_parts e h2
      cases h1 with
      | @tup b ys es hb hy =>
        cases hy with
        | @cons y1 ys1 d1 es1 a1 a2 =>
          cases a1
          cases a2 with
          | @cons y2 ys2 d2 es2 b1 b2 =>
            cases b2
            exact ⟨b :: ps, y2 :: vs, by rw [e1]; rfl, .cons (e.t hb) e2, congrArg (· + 1) e3, .cons b1 e4⟩
theorem valV_none {kvs : List (Key × V)} {k : Key} (h : k ∉ kvs.map (·.1)) : valV kvs k = none := by
  have e := valV_any k kvs
  cases c : valV kvs k with
  | none => rfl
  | some v =>
    rw [c] at e
    obtain ⟨q, hq, hk⟩ := List.any_eq_true.mp (e.trans rfl)
    exact absurd (List.mem_map.mpr ⟨q, hq, of_decide_eq_true hk⟩) h
theorem mergeK_nodup : ∀ (more acc : List (Key × V)), ((acc ++ more).map (·.1)).Nodup → mergeK acc more = acc ++ more
  | [], acc, _ => (List.append_nil acc).symm
  | q :: r, acc, h => by
    have hq : q.1 ∉ acc.map (·.1) := by
      rw [List.map_append, List.map_cons] at h
      intro z
      exact (List.nodup_append.mp h).2.2 _ z _ List.mem_cons_self rfl
    show mergeK (putK acc q.1 q.2) r = _
    rw [putK_new _ (valV_none hq), mergeK_nodup r (acc ++ [q]) (by rw [List.append_assoc]; exact h), List.append_assoc]
    rfl
theorem keys_nodup {kvs : IVs} {xs : List V} (hl : xs.length = kvs.length) (nd : (kvs.map (·.1)).Nodup) : ((([] : List (Key × V)) ++ (keysI kvs).zip xs).map (·.1)).Nodup := by
  rw [List.nil_append, keys_zip hl]
  exact List.Pairwise.map _ (fun a b h z => h (Sum.inl.inj z)) nd
/-- dict([(k, v), ..]) whose keys are ints, no two alike -/
theorem c_dictPk {kvs : IVs} (nd : (kvs.map (·.1)).Nodup) (p : P (.dat (dicI kvs)) M) :
    Cb K (fun xs H Q => ∃ (a : Addr) (ps : List Addr) (kvs : List (Key × V)), xs = [.ref a] ∧ SqL K H a (ps.map V.ref) ∧ Paired (fun p kv => SqT K H p [kV kv.1, kv.2]) ps kvs ∧ ∀ p, H p = none → Q (.ref p) (upd H p (.dK (mergeK [] kvs)))) [.dat (.list (kvs.map fun p => PyData.tuple [.int p.1, p.2]))] M P := fun vs G H Q a w r => by
  cases a with
  | cons x y =>
    cases y
    cases x with
    | @lst b xs ds hb hx =>
      obtain ⟨ps, vs, e1, e2, e3, e4⟩ := pairs_parts w.gh hx
      subst e1
      refine ⟨b, ps, _, rfl, SqL.of (w.gh _ _ hb), e2, fun q hq => ?_⟩
      rw [mergeK_nodup _ _ (keys_nodup e3 nd), List.nil_append]
      exact r.new w p (fun b c => dicI_rp (.inl upd_same) e3 (dpsUp (Ex.add c) _ _ e4)) q hq
end
end Yw

set_option Elab.async false
set_option linter.all false
set_option maxRecDepth 100000
set_option maxHeartbeats 4000000
/-! Own layer: zip of three tuples. -/
namespace Yw
open PySem PySem.Spec PyProof.Rows L2
def M6 (n : Nat) : List Addr := [n + 5, n + 3, n + 4, n, n + 1, n + 2]
theorem m6 {n c : Nat} (h : c ∈ M6 n) : c = n + 5 ∨ c = n + 3 ∨ c = n + 4 ∨ c = n ∨ c = n + 1 ∨ c = n + 2 := by simpa [M6] using h
section
variable {K : PySem.W.Frag} {G : Hp} {H : Hp} {G1 : Hp} {es : List Ent} {M : MM}
end
end Yw

set_option Elab.async false
set_option linter.all false
set_option maxRecDepth 100000
set_option maxHeartbeats 4000000
/-! Own layer: zip of any number of tuples. -/
namespace Yw
open PySem PySem.Spec PyProof.Rows L2
open PySem.Sem (wp)
abbrev IsTupV (h : Heap) (T : Addr) (vs : List Value) : Prop := h.get? T = some { cls := .type "tuple", data := .seq vs.toArray }
def itsV (N n : Nat) : List Value := (List.range n).map fun j => Value.ref (N + j : Nat)
theorem itsV_len (N n : Nat) : (itsV N n).length = n := by simp [itsV]
theorem itsV_at {N n j : Nat} (h : j < n) : (itsV N n)[j]? = some (.ref (N + j : Nat)) := by
  unfold itsV
  rw [List.getElem?_map, List.getElem?_range h]
  rfl
/-- how a zip over n tuples stands while it draws: the first k iterators have drawn their item i -/
structure ZvS (s0 : Shared) (N n : Nat) (as : List Addr) (i : Nat) (xs : List Value) (k : Nat) (h : Heap) : Prop where
  sz : h.objs.size = s0.heap.objs.size
  z : IsZip h (N + n + 2 : Nat) (N + n : Nat) (N + n + 1 : Nat) .ellipsis
  o : ∃ ws : List Value, ws.length = n ∧ IsTupV h (N + n + 1 : Nat) ws ∧ ∀ j, j < k → ws[j]? = xs[j]?
  it : ∀ (j : Nat) (a : Addr), as[j]? = some a → h.IsTupleIter (N + j : Nat) a (if j < k then i + 1 else i)
  kp : ∀ (c : Nat) (q : Obj), (c < N ∨ c = N + n ∨ N + n + 2 < c) → s0.heap.get? c = some q → h.get? c = some q
section
variable {prog : Program} {w : World} {A : Around} {E : Value → Shared → Prop} {s : Shared}
theorem updV {T : Addr} {vs : List Value} {x : Value} {k : Nat} {Q : Unit → Shared → Prop} (nl : vs.length ≤ 1000) (hT : IsTupV s.heap T vs)
    (h : ∀ h', IsTupV h' T (vs.set k x) → Heap.SameBut T s.heap h' → Q () { s with heap := h' }) : wpAny (model prog w) A (updateSeq T (·.setIfInBounds k x)) Q E s := by
  have b : (1000 : Nat) ≤ sizeLine := by decide
  refine wpAny_updateSeq hT rfl (hz := by simp; omega) (_hz' := by simp; omega) (h _ ?_ (Heap.SameBut.update ..))
  show (s.heap.update T _).get? T = _
  rw [Heap.get?_update_self _ hT rfl]
  simp [Obj.mapSeq]
end
/-! ### the zip made -/
abbrev itObj (a : Addr) : Obj := { cls := .type "tuple_iterator", data := .fields #[.ref a, .int 0 0] }
def pushIts (h : Heap) : List Addr → Heap
  | [] => h
  | a :: as => pushIts (h.push (itObj a)) as
theorem pushIts_snoc (h : Heap) : ∀ (as : List Addr) (a : Addr), pushIts h (as ++ [a]) = (pushIts h as).push (itObj a)
  | [], _ => rfl
  | b :: as, a => pushIts_snoc (h.push (itObj b)) as a
theorem pushIts_size : ∀ (h : Heap) (as : List Addr), (pushIts h as).objs.size = h.objs.size + as.length
  | _, [] => rfl
  | h, a :: as => by
    show (pushIts (h.push (itObj a)) as).objs.size = _
    rw [pushIts_size (h.push (itObj a)) as, Heap.size_push, List.length_cons]
    omega
theorem pushIts_keep : ∀ {h : Heap} {as : List Addr} {c : Addr} {q : Obj}, h.get? c = some q → (pushIts h as).get? c = some q
  | _, [], _, _, e => e
  | _, _ :: as, _, _, e => pushIts_keep (as := as) (Heap.get?_push_of_some _ e)
theorem pushIts_at : ∀ {h : Heap} {as : List Addr} {j : Nat} {a : Addr}, as[j]? = some a → (pushIts h as).get? (h.objs.size + j : Nat) = some (itObj a)
  | h, b :: as, 0, a, e => by
    obtain rfl : b = a := by simpa using e
    exact pushIts_keep (as := as) (Heap.get?_push_size _ rfl)
  | h, b :: as, j + 1, a, e => by
    have ih := pushIts_at (h := h.push (itObj b)) (as := as) (j := j) (a := a) (by simpa using e)
    rw [Heap.size_push] at ih
    have ej : h.objs.size + (j + 1) = h.objs.size + 1 + j := by omega
    rw [ej]
    exact ih
section
variable {prog : Program} {w : World} {A : Around} {E : Value → Shared → Prop} {s : Shared}
theorem iterAllV {as : List Addr} {Q : List Value → Shared → Prop} (ht : ∀ a ∈ as, ∃ items, s.heap.IsTuple a items) (q : Q (itsV s.heap.objs.size as.length) { s with heap := pushIts s.heap as }) :
    wpAny (model prog w) A (Builtin.SmallTypes.iterAll (as.map Value.ref)) Q E s := by
  unfold Builtin.SmallTypes.iterAll
  refine wpAny_bind (wpAny_forIn_list _ (fun rest b s' => ∃ done more, as = done ++ more ∧ rest = more.map Value.ref ∧ b = (itsV s.heap.objs.size done.length).toArray ∧ s' = { s with heap := pushIts s.heap done }) _ ?_ ?_ _ _ ⟨[], as, rfl, rfl, rfl, rfl⟩)
  · rintro x rest b s' ⟨done, more, e, er, rfl, rfl⟩
    cases more with
    | nil => cases er
    | cons a more =>
      rw [List.map_cons] at er
      injection er with e1 e2
      subst e1 e2
      obtain ⟨items, hi⟩ := ht a (by rw [e]; simp)
      refine wpAny_bind (wpAny_holding (wpAny_pyIter_tuple (s := { s with heap := pushIts s.heap done }) (hi.at fun q e => pushIts_keep e) (wpAny_pure ⟨done ++ [a], more, by rw [e, List.append_assoc]; rfl, rfl, ?_, ?_⟩)))
      · show (itsV s.heap.objs.size done.length).toArray.push (.ref (pushIts s.heap done).objs.size) = _
        rw [pushIts_size, List.length_append, List.length_singleton]
        unfold itsV
        rw [List.range_succ, List.map_append]
        simp
      · rw [pushIts_snoc]
  · rintro b s' ⟨done, more, e, er, rfl, rfl⟩
    obtain rfl : more = [] := by simpa using er.symm
    rw [List.append_nil] at e
    subst e
    exact wpAny_pure q
end
abbrev zvT (h : Heap) (as : List Addr) : Heap := (pushIts h as).push { cls := .type "tuple", data := .seq (itsV h.objs.size as.length).toArray }
abbrev zvO (h : Heap) (as : List Addr) : Heap := (zvT h as).push { cls := .type "tuple", data := .seq ((itsV h.objs.size as.length).map fun _ => Value.none).toArray }
abbrev zvZ (h : Heap) (as : List Addr) : Heap := (zvO h as).push { cls := .type "zip", data := .fields #[.none, .bool false, .bool false, .ref (pushIts h as).objs.size, .ref (zvT h as).objs.size] }
theorem meets_zipV (as : List Addr) :
    Meets (Builtin.«zip.__new__» ⟨.type "zip" :: as.map Value.ref, []⟩) (fun _ R s => (∀ a ∈ as, ∃ items, s.heap.IsTuple a items) ∧ as.length ≤ 1000 ∧
      R (.ok (.ret (.ref (zvO s.heap as).objs.size))) { s with heap := zvZ s.heap as }) :=
  .of_wp fun prog w A R s h => by
    obtain ⟨hp, g, d, tk, os⟩ := s
    obtain ⟨ht, nl, h⟩ := h
    have hsub := sub_zip
    have big : (1000 : Nat) ≤ sizeLine := by decide
    have l1 := itsV_len hp.objs.size as.length
    have q := fun (A' : Around) (E' : Value → Shared → Prop) (Q' : List Value → Shared → Prop) => iterAllV (prog := prog) (w := w) (A := A') (E := E') (s := ⟨hp, g, d, tk, os⟩) (as := as) (Q := Q') ht
    have z1 : ¬ ((itsV hp.objs.size as.length).toArray.size > sizeLine) := by simp [itsV_len]; omega
    have z2 : ¬ (((itsV hp.objs.size as.length).map fun _ => Value.none).toArray.size > sizeLine) := by simp [itsV_len]; omega
    wp_walk using q
    rw [if_neg z1]
    wp_walk using q
    rw [if_neg z2]
    wp_walk using q
    exact ⟨_, rfl, h⟩
theorem F.typeCall_zipV (vs : List Value) : checkTypeCall "zip" ⟨vs, []⟩ = pure () := by kernel_rfl
theorem F.newCall_zipV : ∀ (vs : List Value), vs.length ≤ 12 → checkBuiltinCall "zip.__new__" ⟨.type "zip" :: vs, []⟩ = pure ()
  | [], _ => by kernel_rfl
  | [a0], _ => by kernel_rfl
  | [a0, a1], _ => by kernel_rfl
  | [a0, a1, a2], _ => by kernel_rfl
  | [a0, a1, a2, a3], _ => by kernel_rfl
  | [a0, a1, a2, a3, a4], _ => by kernel_rfl
  | [a0, a1, a2, a3, a4, a5], _ => by kernel_rfl
  | [a0, a1, a2, a3, a4, a5, a6], _ => by kernel_rfl
  | [a0, a1, a2, a3, a4, a5, a6, a7], _ => by kernel_rfl
  | [a0, a1, a2, a3, a4, a5, a6, a7, a8], _ => by kernel_rfl
  | [a0, a1, a2, a3, a4, a5, a6, a7, a8, a9], _ => by kernel_rfl
  | [a0, a1, a2, a3, a4, a5, a6, a7, a8, a9, a10], _ => by kernel_rfl
  | [a0, a1, a2, a3, a4, a5, a6, a7, a8, a9, a10, a11], _ => by kernel_rfl
  | _ :: _ :: _ :: _ :: _ :: _ :: _ :: _ :: _ :: _ :: _ :: _ :: _ :: _, h => absurd h (by simp)
theorem F.args_object_initV (obj : Value) (vs : List Value) : argsOk "object.__init__" ⟨obj :: vs, []⟩ := by unfold argsOk; kernel_rfl
section
variable {prog : Program} {w : World} {A : Around} {E : Value → Shared → Prop} {s : Shared}
theorem zip_beginsV {as : List Addr} {Q : Value → Shared → Prop} (ht : ∀ a ∈ as, ∃ items, s.heap.IsTuple a items) (nl : as.length ≤ 12)
    (h : ∀ h', IsZip h' (s.heap.objs.size + as.length + 2 : Nat) (s.heap.objs.size + as.length : Nat) (s.heap.objs.size + as.length + 1 : Nat) .none → IsTupV h' (s.heap.objs.size + as.length : Nat) (itsV s.heap.objs.size as.length) →
      IsTupV h' (s.heap.objs.size + as.length + 1 : Nat) ((itsV s.heap.objs.size as.length).map fun _ => Value.none) → (∀ (j : Nat) (a : Addr), as[j]? = some a → h'.IsTupleIter (s.heap.objs.size + j : Nat) a 0) →
      (∀ c o, s.heap.get? c = some o → h'.get? c = some o) → Q (.ref (s.heap.objs.size + as.length + 2 : Nat)) { s with heap := h' }) :
    wpAny (model prog w) A (call (.type "zip") (as.map Value.ref)) Q E s := by
  refine callType_new F.called_zip (by decide) (F.typeCall_zipV _) (F.newCall_zipV _ (by rw [List.length_map]; exact nl)) (fun obj => F.args_object_initV obj _) F.entry_zip_new (meets_zipV as) ⟨ht, by omega, ?_⟩
  have z0 := pushIts_size s.heap as
  have zT : (zvT s.heap as).objs.size = s.heap.objs.size + as.length + 1 := by rw [Heap.size_push, z0]
  have zO : (zvO s.heap as).objs.size = s.heap.objs.size + as.length + 2 := by rw [Heap.size_push, zT]
  have g1 : (zvZ s.heap as).get? (zvO s.heap as).objs.size = some _ := Heap.get?_push_size _ rfl
  have g2 : (zvZ s.heap as).get? (zvT s.heap as).objs.size = some _ := Heap.get?_push_of_some _ (Heap.get?_push_size _ rfl)
  have g3 : (zvZ s.heap as).get? (pushIts s.heap as).objs.size = some _ := Heap.get?_push_of_some _ (Heap.get?_push_of_some _ (Heap.get?_push_size _ rfl))
  show _ ∧ _
  rw [zO] at g1
  rw [zT] at g2 g1
  rw [z0] at g3 g1
  rw [zO]
  exact ⟨⟨_, g1, rfl⟩, h _ g1 g3 g2 (fun j a hj => ⟨_, Heap.get?_push_of_some _ (Heap.get?_push_of_some _ (Heap.get?_push_of_some _ (pushIts_at hj))), rfl, rfl⟩) fun c o x =>
    Heap.get?_push_of_some _ (Heap.get?_push_of_some _ (Heap.get?_push_of_some _ (pushIts_keep x)))⟩
end
end Yw

set_option Elab.async false
set_option linter.all false
set_option maxRecDepth 100000
set_option maxHeartbeats 4000000
/-! Own layer: a walk over zip(*tuples), the target being a name: what was drawn may be held. -/
namespace Yw
open PySem PySem.Spec PyProof.Rows L2
open PySem.Sem (wp)
abbrev IsZipB (h : Heap) (z TI TO : Addr) (f0 : Value) (b : Bool) : Prop :=
  h.get? z = some { cls := .type "zip", dict := none, data := .fields #[f0, .bool b, .bool false, .ref TI, .ref TO], slots := #[] }
namespace ZB
structure ZvS (s0 : Shared) (b0 : Bool) (N n : Nat) (as : List Addr) (i : Nat) (xs : List Value) (k : Nat) (h : Heap) : Prop where
  sz : h.objs.size = s0.heap.objs.size
  z : IsZipB h (N + n + 2 : Nat) (N + n : Nat) (N + n + 1 : Nat) .ellipsis b0
  o : ∃ ws : List Value, ws.length = n ∧ IsTupV h (N + n + 1 : Nat) ws ∧ ∀ j, j < k → ws[j]? = xs[j]?
  it : ∀ (j : Nat) (a : Addr), as[j]? = some a → h.IsTupleIter (N + j : Nat) a (if j < k then i + 1 else i)
  kp : ∀ (c : Nat) (q : Obj), (c < N ∨ c = N + n ∨ N + n + 2 < c) → s0.heap.get? c = some q → h.get? c = some q
structure ZvU (s0 : Shared) (f0 : Value) (N n : Nat) (as : List Addr) (ws : List Value) (i : Nat) (k : Nat) (h : Heap) : Prop where
  sz : h.objs.size = s0.heap.objs.size
  z : IsZipB h (N + n + 2 : Nat) (N + n : Nat) (N + n + 1 : Nat) f0 true
  o : IsTupV h (N + n + 1 : Nat) ws
  it : ∀ (j : Nat) (a : Addr), as[j]? = some a → h.IsTupleIter (N + j : Nat) a (if j < k then i + 1 else i)
  kp : ∀ (c : Nat) (q : Obj), (c < N ∨ c = N + n ∨ N + n + 2 < c) → s0.heap.get? c = some q → h.get? c = some q
section
variable {prog : Program} {w : World} {A : Around} {E : Value → Shared → Prop} {s : Shared}
theorem wpAny_alive {M : Model} {a : Addr} {Q : Option Obj → Shared → Prop} (h : Q (s.heap.get? a) s) : wpAny M A (loadIfAlive a) Q E s := by
  unfold loadIfAlive
  intro Γ p _
  simpa using h
theorem isFreeV {z TI TO : Addr} {f0 : Value} {b0 : Bool} {Q : Bool → Shared → Prop} (hz : IsZipB s.heap z TI TO f0 b0) (hf : f0 = .none ∨ ∃ T : Nat, f0 = rawInt T)
    (h1 : Q true s) (h2 : ∀ h', IsZipB h' z TI TO f0 true → Heap.SameBut z s.heap h' → Q false { s with heap := h' }) : wpAny (model prog w) A (Builtin.SmallTypes.ownedTupleIsFree (.ref z)) Q E s := by
  unfold Builtin.SmallTypes.ownedTupleIsFree
  refine wpAny_bind (wpAny_field hz rfl (x := f0) rfl ?_)
  rcases hf with rfl | ⟨T, rfl⟩
  · exact wpAny_pure h1
  · show wpAny _ _ (loadIfAlive _ >>= _) _ _ _
    refine wpAny_bind (wpAny_alive ?_)
    by_cases c : (s.heap.get? ((T : Int)).toNat).isNone = true
    · rw [if_pos c]
      exact wpAny_pure h1
    · rw [if_neg c]
      refine wpAny_bind (wpAny_field hz rfl (x := .bool b0) rfl ?_)
      cases b0
      · refine wpAny_bind (wpAny_setField_rec hz (by simp) fun h' hz' hs' => wpAny_pure (h2 h' hz' hs'))
      · exact wpAny_pure (h2 s.heap hz ⟨rfl, fun _ _ => rfl⟩)
theorem zipB_next_item {N n i : Nat} {f0 : Value} {b0 : Bool} {as : List Addr} {ws xs : List Value} {Q : Value → Shared → Prop} (hn : as.length = n) (n0 : 0 < n) (nl : n ≤ 1000) (low : ∀ a ∈ as, (show Nat from a) < N)
    (hf : f0 = .none ∨ ∃ T : Nat, f0 = rawInt T) (hz : IsZipB s.heap (N + n + 2 : Nat) (N + n : Nat) (N + n + 1 : Nat) f0 b0) (hTI : IsTupV s.heap (N + n : Nat) (itsV N n)) (hTO : IsTupV s.heap (N + n + 1 : Nat) ws) (wl : ws.length = n)
    (hit : ∀ (j : Nat) (a : Addr), as[j]? = some a → s.heap.IsTupleIter (N + j : Nat) a i) (xl : xs.length = n)
    (hx : ∀ (j : Nat) (a : Addr), as[j]? = some a → ∃ items, s.heap.IsTuple a items ∧ ∃ x, xs[j]? = some x ∧ items[i]? = some x)
    (hQ : ∀ h' b', IsZipB h' (N + n + 2 : Nat) (N + n : Nat) (N + n + 1 : Nat) (rawInt s.heap.objs.size) b' ∨ IsZipB h' (N + n + 2 : Nat) (N + n : Nat) (N + n + 1 : Nat) f0 b' → (∃ us : List Value, us.length = n ∧ IsTupV h' (N + n + 1 : Nat) us) → (∀ (j : Nat) (a : Addr), as[j]? = some a → h'.IsTupleIter (N + j : Nat) a (i + 1)) →
      IsTupV h' s.heap.objs.size xs → h'.objs.size = s.heap.objs.size + 1 → (∀ (c : Nat) (q : Obj), (c < N ∨ c = N + n ∨ N + n + 2 < c) → s.heap.get? c = some q → h'.get? c = some q) → Q (.ref s.heap.objs.size) { s with heap := h' }) :
    wpAny (model prog w) A (Builtin.«zip.__next__» ⟨[.ref (N + n + 2 : Nat)], []⟩) (fun fin s' => ∃ v, fin = .done (.ret v) ∧ Q v s') E s := by
  show wpAny _ _ (field (.ref (N + n + 2 : Nat)) 2 >>= _) _ _ _
  refine wpAny_bind (wpAny_field hz rfl (x := .bool false) rfl ?_)
  show wpAny _ _ (field (.ref (N + n + 2 : Nat)) 3 >>= _) _ _ _
  refine wpAny_bind (wpAny_field hz rfl (x := .ref (N + n : Nat)) rfl ?_)
  refine wpAny_bind (wpAny_seqItems hTI rfl ?_)
  have ne : (itsV N n).toArray.isEmpty = false := by
    have := itsV_len N n
    cases h : itsV N n with
    | nil => rw [h] at this; simp at this; omega
    | cons a l => rfl
  simp only [ne]
  show wpAny _ _ (Builtin.SmallTypes.ownedTupleIsFree (.ref (N + n + 2 : Nat)) >>= _) _ _ _
  refine wpAny_bind ?_
  have zlt : N + n + 2 < s.heap.objs.size := Heap.lt_size hz
  have hal : ∀ {j : Nat} {a : Addr}, as[j]? = some a → j < n := fun h => by have := (List.getElem?_eq_some_iff.mp h).1; omega
  refine isFreeV hz hf ?free fun h0 hz0 hs0 => ?held
  case held =>
    simp only [Bool.false_eq_true, if_false]
    rw [← Array.forIn_toList]
    refine wpAny_bind (wpAny_forIn_list _ (fun rest b s' => ∃ k h, k ≤ n ∧ rest = (itsV N n).drop k ∧ b = (none, (xs.take k).toArray) ∧ s' = { s with heap := h } ∧ ZvU s f0 N n as ws i k h) _ ?_ ?_ _ _ ⟨0, h0, Nat.zero_le _, rfl, rfl, rfl, ?_⟩)
    · rintro x rest b s' ⟨k, h, hk, e, rfl, rfl, st⟩
      have hkn : k < n := by
        have := congrArg List.length e
        simp [itsV_len] at this
        omega
      have ex : (itsV N n)[k]? = some x := by
        have : ((itsV N n).drop k)[0]? = some x := by rw [← e]; rfl
        rwa [List.getElem?_drop, Nat.add_zero] at this
      have er : rest = (itsV N n).drop (k + 1) := by
        have := congrArg List.tail e
        rw [List.tail_drop] at this
        exact this
      rw [itsV_at hkn] at ex
      obtain rfl : Value.ref (N + k : Nat) = x := by simpa using ex
      have ha := List.getElem?_eq_getElem (show k < as.length by omega)
      generalize as[k] = a at ha
      have al : @LT.lt Nat _ a N := low a (List.mem_of_getElem? ha)
      obtain ⟨items, hit1, v, hv, hiv⟩ := hx k a ha
      have it1 := st.it k a ha
      rw [if_neg (Nat.lt_irrefl k)] at it1
      refine wpAny_bind (wpAny_holding ?_)
      show wpAny _ _ (Builtin.SmallTypes.nextOf (.ref (N + k : Nat)) >>= _) _ _ _
      refine wpAny_bind (RZ.nextOf_tuple_item it1 (hit1.at fun q e => st.kp a q (.inl al) e) hiv fun h2 it2 hs2 => wpAny_pure (wpAny_pure ⟨k + 1, h2, hkn, er, ?_, rfl, ?_⟩))
      · rw [take_snoc hv]
        simp
      · have hs2 : Heap.SameBut (N + k : Nat) h h2 := hs2
        refine ⟨by rw [hs2.1]; exact st.sz, hs2.extBut _ _ (by show ¬ @Eq Nat _ _; omega) st.z, hs2.extBut _ _ (by show ¬ @Eq Nat _ _; omega) st.o, fun j b hb => ?_, fun c q hc e => hs2.extBut _ _ (by show ¬ @Eq Nat _ _; omega) (st.kp c q hc e)⟩
        have hjn := hal hb
        by_cases ej : j = k
        · subst ej
          rw [if_pos (Nat.lt_succ_self j)]
          rw [ha] at hb
          cases hb
          exact it2
        · have i0 := st.it j b hb
          have ee : (if j < k then i + 1 else i) = (if j < k + 1 then i + 1 else i) := by
            by_cases c : j < k
            · rw [if_pos c, if_pos (by omega)]
            · rw [if_neg c, if_neg (by omega)]
          rw [ee] at i0
          exact i0.extBut hs2.extBut (by show ¬ @Eq Nat _ _; omega)
    · rintro b s' ⟨k, h, hk, e, rfl, rfl, st⟩
      obtain rfl : k = n := by
        have := congrArg List.length e
        simp [itsV_len] at this
        omega
      rw [List.take_of_length_le (by omega)]
      refine wpAny_bind (wpAny_newTuple ?_)
      have hsz := st.sz
      have hzlt : N + k + 2 < h.objs.size := by rw [hsz]; exact zlt
      refine wpAny_pure ⟨_, rfl, ?_⟩
      show Q (.ref h.objs.size) { s with heap := h.push { cls := .type "tuple", data := .seq xs.toArray } }
      rw [hsz]
      refine hQ _ true (.inr (Heap.get?_push_of_some _ st.z)) ⟨ws, wl, Heap.get?_push_of_some _ st.o⟩ (fun j a hj => ?_) ?_ (by rw [Heap.size_push, hsz]) fun c q hc e => Heap.get?_push_of_some _ (st.kp c q hc e)
      · have hjn := hal hj
        have := st.it j a hj
        rw [if_pos hjn] at this
        exact this.at fun q e => Heap.get?_push_of_some _ e
      · rw [← hsz]
        exact Heap.get?_push_size _ rfl
    · refine ⟨hs0.1, hz0, hs0.extBut _ _ (by show ¬ @Eq Nat _ _; omega) hTO, fun j a hj => ?_, fun c q hc e => hs0.extBut _ _ (by show ¬ @Eq Nat _ _; omega) e⟩
      rw [if_neg (Nat.not_lt_zero _)]
      exact (hit j a hj).extBut hs0.extBut (by have := hal hj; show ¬ @Eq Nat _ _; omega)
  simp only [if_true]
  refine wpAny_bind (wpAny_rule ?_)
  refine wpAny_bind (wpAny_field hz rfl (x := .ref (N + n + 1 : Nat)) rfl ?_)
  refine wpAny_bind (wpAny_setField_rec hz (by simp) fun h₁ hz₁ hs₁ => ?_)
  refine wpAny_bind (wpAny_forIn_list _ (fun rest b s' => b = (none, ()) ∧ ∃ k h, k ≤ n ∧ rest = (itsV N n).zipIdx.drop k ∧ s' = { s with heap := h } ∧ ZvS s b0 N n as i xs k h) _ ?_ ?_ _ _ ⟨rfl, 0, h₁, Nat.zero_le _, rfl, rfl, ?_⟩)
  · rintro x rest b s' ⟨rfl, k, h, hk, e, rfl, st⟩
    have hkn : k < n := by
      have := congrArg List.length e
      simp [itsV_len] at this
      omega
    have ex : (itsV N n).zipIdx[k]? = some x := by
      have : ((itsV N n).zipIdx.drop k)[0]? = some x := by rw [← e]; rfl
      rwa [List.getElem?_drop, Nat.add_zero] at this
    have er : rest = (itsV N n).zipIdx.drop (k + 1) := by
      have := congrArg List.tail e
      rw [List.tail_drop] at this
      exact this
    rw [List.getElem?_zipIdx, itsV_at hkn] at ex
    obtain rfl : (Value.ref (N + k : Nat), 0 + k) = x := by simpa using ex
    have ha := List.getElem?_eq_getElem (show k < as.length by omega)
    generalize as[k] = a at ha
    have al : @LT.lt Nat _ a N := low a (List.mem_of_getElem? ha)
    obtain ⟨items, hit1, v, hv, hiv⟩ := hx k a ha
    obtain ⟨ws', wl', hW, hwk⟩ := st.o
    have it1 := st.it k a ha
    rw [if_neg (Nat.lt_irrefl k)] at it1
    refine wpAny_bind (wpAny_onRaise ?_)
    show wpAny _ _ (Builtin.SmallTypes.nextOf (.ref (N + k : Nat)) >>= _) _ _ _
    refine wpAny_bind (RZ.nextOf_tuple_item it1 (hit1.at fun q e => st.kp a q (.inl al) e) hiv fun h2 it2 hs2 => wpAny_pure ?_)
    have hW2 : IsTupV h2 (N + n + 1 : Nat) ws' := hs2.extBut _ _ (by show ¬ @Eq Nat _ _; omega) hW
    refine wpAny_bind (wpAny_seqItems (s := { s with heap := h2 }) hW2 rfl ?_)
    refine wpAny_bind (updV (s := { s with heap := h2 }) (by omega) hW2 fun h3 hW3 hs3 => ?_)
    have hW3 : IsTupV h3 (N + n + 1 : Nat) (ws'.set (0 + k) v) := hW3
    rw [Nat.zero_add] at hW3
    have hs2 : Heap.SameBut (N + k : Nat) h h2 := hs2
    have hs3 : Heap.SameBut (N + n + 1 : Nat) h2 h3 := hs3
    refine wpAny_bind (wpAny_letGo (wpAny_pure ⟨rfl, k + 1, h3, hkn, er, rfl, ?_⟩))
    refine ⟨by rw [hs3.1, hs2.1]; exact st.sz, ?_, ⟨_, by rw [List.length_set]; exact wl', hW3, fun j hj => ?_⟩, fun j b hb => ?_, fun c q hc e => ?_⟩
    · exact hs3.extBut _ _ (by show ¬ @Eq Nat _ _; omega) (hs2.extBut _ _ (by show ¬ @Eq Nat _ _; omega) st.z)
    · by_cases ej : j = k
      · subst ej
        rw [List.getElem?_set_self (by omega), hv]
      · rw [List.getElem?_set_ne (fun z => ej z.symm)]
        exact hwk j (by omega)
    · have hjn := hal hb
      by_cases ej : j = k
      · subst ej
        rw [if_pos (Nat.lt_succ_self j)]
        rw [ha] at hb
        cases hb
        exact it2.extBut hs3.extBut (by show ¬ @Eq Nat _ _; omega)
      · have i0 := st.it j b hb
        have ee : (if j < k then i + 1 else i) = (if j < k + 1 then i + 1 else i) := by
          by_cases c : j < k
          · rw [if_pos c, if_pos (by omega)]
          · rw [if_neg c, if_neg (by omega)]
        rw [ee] at i0
        exact (i0.extBut hs2.extBut (by show ¬ @Eq Nat _ _; omega)).extBut hs3.extBut (by show ¬ @Eq Nat _ _; omega)
    · exact hs3.extBut _ _ (by show ¬ @Eq Nat _ _; omega) (hs2.extBut _ _ (by show ¬ @Eq Nat _ _; omega) (st.kp c q hc e))
  · rintro b s' ⟨rfl, k, h, hk, e, rfl, st⟩
    obtain rfl : k = n := by
      have := congrArg List.length e
      simp [itsV_len] at this
      omega
    obtain ⟨ws', wl', hW, hwk⟩ := st.o
    obtain rfl : ws' = xs := List.ext_getElem? fun j => by
      by_cases c : j < k
      · exact hwk j c
      · rw [List.getElem?_eq_none_iff.mpr (by omega), List.getElem?_eq_none_iff.mpr (by omega)]
    refine wpAny_bind (wpAny_seqItems (s := { s with heap := h }) hW rfl ?_)
    refine wpAny_bind (wpAny_newTuple ?_)
    have hzz : IsZipB h (N + k + 2 : Nat) (N + k : Nat) (N + k + 1 : Nat) .ellipsis b0 := st.z
    have hzlt : N + k + 2 < h.objs.size := Heap.lt_size hzz
    have hsz := st.sz
    show wpAny _ _ (Builtin.SmallTypes.ownedTupleHandOut (.ref (N + k + 2 : Nat)) (.ref h.objs.size) >>= _) _ _ { s with heap := h.push { cls := .type "tuple", data := .seq ws'.toArray } }
    refine wpAny_bind ?_
    unfold Builtin.SmallTypes.ownedTupleHandOut
    have hz₆ : IsZipB (h.push { cls := .type "tuple", data := .seq ws'.toArray }) (N + k + 2 : Nat) (N + k : Nat) (N + k + 1 : Nat) .ellipsis b0 := Heap.get?_push_of_some _ hzz
    refine wpAny_bind (wpAny_setField_rec hz₆ (by simp) fun h₇ hz₇ hs₇ => ?_)
    replace hz₇ : IsZipB h₇ (N + k + 2 : Nat) (N + k : Nat) (N + k + 1 : Nat) (rawInt h.objs.size) b0 := hz₇
    refine wpAny_setField_rec hz₇ (by simp) fun h₈ hz₈ hs₈ => ?_
    replace hz₈ : IsZipB h₈ (N + k + 2 : Nat) (N + k : Nat) (N + k + 1 : Nat) (rawInt h.objs.size) false := hz₈
    replace hs₇ : Heap.SameBut (N + k + 2 : Nat) (h.push { cls := .type "tuple", data := .seq ws'.toArray }) h₇ := hs₇
    replace hs₈ : Heap.SameBut (N + k + 2 : Nat) h₇ h₈ := hs₈
    have up : ∀ (c : Nat) q, c ≠ N + k + 2 → h.get? c = some q → h₈.get? c = some q := fun c q c1 e => hs₈.extBut _ _ c1 (hs₇.extBut _ _ c1 (Heap.get?_push_of_some _ e))
    have hT₈ : IsTupV h₈ h.objs.size ws' := hs₈.extBut _ _ (Nat.ne_of_gt hzlt) (hs₇.extBut _ _ (Nat.ne_of_gt hzlt) (Heap.get?_push_size _ rfl))
    have hz8 : h₈.objs.size = h.objs.size + 1 := by rw [hs₈.1, hs₇.1, Heap.size_push]
    rw [hsz] at hz₈ hT₈ hz8
    refine wpAny_pure ⟨_, rfl, ?_⟩
    show Q (.ref h.objs.size) _
    rw [hsz]
    exact hQ h₈ false (.inl hz₈) ⟨ws', wl', up _ _ (by omega) hW⟩ (fun j a hj => by
      have hjn := hal hj
      have := st.it j a hj
      rw [if_pos hjn] at this
      exact this.at fun q e => up _ q (by omega) e) hT₈ hz8 fun c q hc e => up c q (by omega) (st.kp c q hc e)
  · refine ⟨hs₁.1, hz₁, ⟨ws, wl, hs₁.extBut _ _ (by show ¬ @Eq Nat _ _; omega) hTO, fun j hj => absurd hj (Nat.not_lt_zero _)⟩, fun j a hj => ?_, fun c q hc e => hs₁.extBut _ _ (by show ¬ @Eq Nat _ _; omega) e⟩
    rw [if_neg (Nat.not_lt_zero _)]
    exact (hit j a hj).extBut hs₁.extBut (by have := hal hj; show ¬ @Eq Nat _ _; omega)
theorem zipB_next_end {N n i : Nat} {f0 : Value} {b0 : Bool} {as : List Addr} {ws : List Value} {Q : Fin → Shared → Prop} (hh : A.handled = none) (hn : as.length = n) (low : ∀ a ∈ as, (show Nat from a) < N)
    (hf : f0 = .none ∨ ∃ T : Nat, f0 = rawInt T) (hz : IsZipB s.heap (N + n + 2 : Nat) (N + n : Nat) (N + n + 1 : Nat) f0 b0) (hTI : IsTupV s.heap (N + n : Nat) (itsV N n)) (hTO : IsTupV s.heap (N + n + 1 : Nat) ws)
    (hit : ∀ (j : Nat) (a : Addr), as[j]? = some a → s.heap.IsTupleIter (N + j : Nat) a i)
    (hx : ∀ (j : Nat) (a : Addr), as[j]? = some a → ∃ items, s.heap.IsTuple a items ∧ items[i]? = none)
    (hE : ∀ h' e, (∀ (c : Nat) (q : Obj), (c < N ∨ c = N + n ∨ N + n + 2 < c) → s.heap.get? c = some q → h'.get? c = some q) → (∃ o, h'.get? e = some o ∧ o.cls = .type "StopIteration") → E (.ref e) { s with heap := h' }) :
    wpAny (model prog w) A (Builtin.«zip.__next__» ⟨[.ref (N + n + 2 : Nat)], []⟩) Q E s := by
  show wpAny _ _ (field (.ref (N + n + 2 : Nat)) 2 >>= _) _ _ _
  refine wpAny_bind (wpAny_field hz rfl (x := .bool false) rfl ?_)
  show wpAny _ _ (field (.ref (N + n + 2 : Nat)) 3 >>= _) _ _ _
  refine wpAny_bind (wpAny_field hz rfl (x := .ref (N + n : Nat)) rfl ?_)
  refine wpAny_bind (wpAny_seqItems hTI rfl ?_)
  rcases Nat.eq_zero_or_pos n with rfl | n0
  · have ne : (itsV N 0).toArray.isEmpty = true := rfl
    simp only [ne, if_true]
    refine wpAny_bind (wpAny_rule (wpAny_bind ?_))
    unfold Builtin.SmallTypes.stopIteration
    refine wpAny_bind ?_
    simp only [newExc, newTuple]
    refine wpAny_bind (wpAny_newObj_type ?_ (by size_fits))
    refine wpAny_bind (m := firstArgMember _ _) (wpAny_of_eq (a := Value.none) (by first | rfl | (simp only [firstArgMember]; rfl)) ?_)
    refine wpAny_newObj_type ?_ (by size_fits)
    simp only [raiseNew]
    refine wpAny_bind (wpAny_handled ?_)
    rw [hh]
    refine wpAny_bind (wpAny_pure (wpAny_throw ?_))
    exact hE _ _ (fun c q _ e => Heap.get?_push_of_some _ (Heap.get?_push_of_some _ e)) ⟨_, Heap.get?_push_size _ rfl, rfl⟩
  have ne : (itsV N n).toArray.isEmpty = false := by
    have := itsV_len N n
    cases h : itsV N n with
    | nil => rw [h] at this; simp at this; omega
    | cons a l => rfl
  simp only [ne]
  show wpAny _ _ (Builtin.SmallTypes.ownedTupleIsFree (.ref (N + n + 2 : Nat)) >>= _) _ _ _
  refine wpAny_bind ?_
  refine isFreeV hz hf ?free fun h0 hz0 hs0 => ?held
  case held =>
    simp only [Bool.false_eq_true, if_false]
    obtain ⟨m, rfl⟩ : ∃ m, n = m + 1 := ⟨n - 1, by omega⟩
    have e0 : itsV N (m + 1) = Value.ref (N : Nat) :: (itsV N (m + 1)).drop 1 := by
      have h := itsV_at (N := N) (Nat.succ_pos m)
      cases e : itsV N (m + 1) with
      | nil => rw [e] at h; simp at h
      | cons x l =>
        rw [e] at h
        obtain rfl : x = Value.ref (N : Nat) := by simpa using h
        rfl
    have ha := List.getElem?_eq_getElem (show 0 < as.length by omega)
    generalize as[0] = a at ha
    have al : @LT.lt Nat _ a N := low a (List.mem_of_getElem? ha)
    obtain ⟨items, hit1, hi⟩ := hx 0 a ha
    have it0 := hit 0 a ha
    rw [← Array.forIn_toList, show (itsV N (m + 1)).toArray.toList = Value.ref (N : Nat) :: (itsV N (m + 1)).drop 1 from e0, List.forIn_cons]
    refine wpAny_bind (wpAny_bind (wpAny_bind (wpAny_holding ?_)))
    show wpAny _ _ (Builtin.SmallTypes.nextOf (.ref (N : Nat)) >>= _) _ _ _
    exact wpAny_bind (RZ.nextOf_tuple_end hh (it0.extBut hs0.extBut (by show ¬ @Eq Nat _ _; omega)) (hit1.extBut hs0.extBut (by show ¬ @Eq Nat _ _; omega)) hi fun h₂ e hs₂ he => hE h₂ e (fun c q hc x => hs₂ _ _ (by show ¬ @Eq Nat _ _; omega) (hs0.extBut _ _ (by show ¬ @Eq Nat _ _; omega) x)) he)
  simp only [if_true]
  refine wpAny_bind (wpAny_rule ?_)
  refine wpAny_bind (wpAny_field hz rfl (x := .ref (N + n + 1 : Nat)) rfl ?_)
  refine wpAny_bind (wpAny_setField_rec hz (by simp) fun h₁ hz₁ hs₁ => ?_)
  replace hz₁ : IsZipB h₁ (N + n + 2 : Nat) (N + n : Nat) (N + n + 1 : Nat) .ellipsis b0 := hz₁
  replace hs₁ : Heap.SameBut (N + n + 2 : Nat) s.heap h₁ := hs₁
  refine wpAny_bind ?_
  obtain ⟨m, rfl⟩ : ∃ m, n = m + 1 := ⟨n - 1, by omega⟩
  have e0 : (itsV N (m + 1)).zipIdx = (Value.ref (N : Nat), 0) :: (itsV N (m + 1)).zipIdx.drop 1 := by
    have h := List.getElem?_zipIdx (l := itsV N (m + 1)) (i := 0) (j := 0)
    rw [itsV_at (Nat.succ_pos m)] at h
    cases e : (itsV N (m + 1)).zipIdx with
    | nil => rw [e] at h; simp at h
    | cons x l =>
      rw [e] at h
      obtain rfl : x = (Value.ref (N : Nat), 0) := by simpa using h
      rfl
  rw [e0, List.forIn_cons]
  have ha := List.getElem?_eq_getElem (show 0 < as.length by omega)
  generalize as[0] = a at ha
  have al : @LT.lt Nat _ a N := low a (List.mem_of_getElem? ha)
  obtain ⟨items, hit1, hi⟩ := hx 0 a ha
  have it0 := hit 0 a ha
  refine wpAny_bind (wpAny_bind (wpAny_onRaise ?_))
  show wpAny _ _ (Builtin.SmallTypes.nextOf (.ref (N : Nat)) >>= _) _ _ _
  refine wpAny_bind (RZ.nextOf_tuple_end hh (it0.extBut hs₁.extBut (by show ¬ @Eq Nat _ _; omega)) (hit1.extBut hs₁.extBut (by show ¬ @Eq Nat _ _; omega)) hi fun h₂ e hs₂ he => ?_)
  obtain ⟨oe, hoe, hce⟩ := he
  have hz₂ : IsZipB h₂ (N + (m + 1) + 2 : Nat) (N + (m + 1) : Nat) (N + (m + 1) + 1 : Nat) .ellipsis b0 := hs₂ _ _ (by show ¬ @Eq Nat _ _; omega) hz₁
  have hez : e ≠ (N + (m + 1) + 2 : Nat) := fun x => by subst x; rw [hz₂] at hoe; cases hoe; simp at hce
  refine wpAny_setField_rec hz₂ (by simp) fun h₃ _ hs₃ => hE h₃ e (fun c q hc x => hs₃.extBut _ _ (by show ¬ @Eq Nat _ _; omega) (hs₂ _ _ (by show ¬ @Eq Nat _ _; omega) (hs₁.extBut _ _ (by show ¬ @Eq Nat _ _; omega) x))) ⟨oe, hs₃.extBut _ _ hez hoe, hce⟩
theorem pyNext_zipB_item {N n i : Nat} {f0 : Value} {b0 : Bool} {as : List Addr} {ws xs : List Value} {Q : Option Value → Shared → Prop} (hn : as.length = n) (n0 : 0 < n) (nl : n ≤ 1000) (low : ∀ a ∈ as, (show Nat from a) < N)
    (hf : f0 = .none ∨ ∃ T : Nat, f0 = rawInt T) (hz : IsZipB s.heap (N + n + 2 : Nat) (N + n : Nat) (N + n + 1 : Nat) f0 b0) (hTI : IsTupV s.heap (N + n : Nat) (itsV N n)) (hTO : IsTupV s.heap (N + n + 1 : Nat) ws) (wl : ws.length = n)
    (hit : ∀ (j : Nat) (a : Addr), as[j]? = some a → s.heap.IsTupleIter (N + j : Nat) a i) (xl : xs.length = n)
    (hx : ∀ (j : Nat) (a : Addr), as[j]? = some a → ∃ items, s.heap.IsTuple a items ∧ ∃ x, xs[j]? = some x ∧ items[i]? = some x)
    (hQ : ∀ h' b', IsZipB h' (N + n + 2 : Nat) (N + n : Nat) (N + n + 1 : Nat) (rawInt s.heap.objs.size) b' ∨ IsZipB h' (N + n + 2 : Nat) (N + n : Nat) (N + n + 1 : Nat) f0 b' → (∃ us : List Value, us.length = n ∧ IsTupV h' (N + n + 1 : Nat) us) → (∀ (j : Nat) (a : Addr), as[j]? = some a → h'.IsTupleIter (N + j : Nat) a (i + 1)) →
      IsTupV h' s.heap.objs.size xs → h'.objs.size = s.heap.objs.size + 1 → (∀ (c : Nat) (q : Obj), (c < N ∨ c = N + n ∨ N + n + 2 < c) → s.heap.get? c = some q → h'.get? c = some q) → Q (some (.ref s.heap.objs.size)) { s with heap := h' }) :
    wpAny (model prog w) A (pyNext (.ref (N + n + 2 : Nat))) Q E s := by
  have hT : s.TypeIs (.ref (N + n + 2 : Nat)) "zip" := ⟨_, hz, rfl⟩
  unfold pyNext
  exact wpAny_bind (wpAny_attempt (wpAny_callSpecial?_slot (name := Str.ofString "__next__") hT F.slot_zip_next
    (wpAny_call_entry F.slot_zip_next hT F.entry_zip_next
      (zipB_next_item hn n0 nl low hf hz hTI hTO wl hit xl hx fun h' b' a1 a2 a3 a4 a5 a6 => wpAny_pure (hQ h' b' a1 a2 a3 a4 a5 a6)) (F.args_zip_next_1 _))))
theorem pyNext_zipB_end {N n i : Nat} {f0 : Value} {b0 : Bool} {as : List Addr} {ws : List Value} {Q : Option Value → Shared → Prop} (hh : A.handled = none) (hn : as.length = n) (low : ∀ a ∈ as, (show Nat from a) < N)
    (hf : f0 = .none ∨ ∃ T : Nat, f0 = rawInt T) (hz : IsZipB s.heap (N + n + 2 : Nat) (N + n : Nat) (N + n + 1 : Nat) f0 b0) (hTI : IsTupV s.heap (N + n : Nat) (itsV N n)) (hTO : IsTupV s.heap (N + n + 1 : Nat) ws)
    (hit : ∀ (j : Nat) (a : Addr), as[j]? = some a → s.heap.IsTupleIter (N + j : Nat) a i)
    (hx : ∀ (j : Nat) (a : Addr), as[j]? = some a → ∃ items, s.heap.IsTuple a items ∧ items[i]? = none)
    (hQ : ∀ h', (∀ (c : Nat) (q : Obj), (c < N ∨ c = N + n ∨ N + n + 2 < c) → s.heap.get? c = some q → h'.get? c = some q) → Q none { s with heap := h' }) :
    wpAny (model prog w) A (pyNext (.ref (N + n + 2 : Nat))) Q E s := by
  have hT : s.TypeIs (.ref (N + n + 2 : Nat)) "zip" := ⟨_, hz, rfl⟩
  unfold pyNext
  refine wpAny_bind (wpAny_attempt (wpAny_callSpecial?_slot (name := Str.ofString "__next__") hT F.slot_zip_next
    (wpAny_call_entry F.slot_zip_next hT F.entry_zip_next (zipB_next_end hh hn low hf hz hTI hTO hit hx fun h' e hk he => ?_) (F.args_zip_next_1 _))))
  obtain ⟨o, ho, hc⟩ := he
  refine wpAny_bind (wpAny_isInstance (T := "StopIteration") (b := true) ⟨o, ho, hc⟩ isSubtype_stop ?_)
  exact wpAny_pure (hQ _ hk)
end
end ZB
/-! ### the walk -/
/-- the tuples at as, walked together -/
def ItV (K : PySem.W.Frag) (as : List Addr) : It :=
  ⟨fun i H => as ≠ [] ∧ ∀ a ∈ as, ∃ (xs : List V) (x : V), SqT K H a xs ∧ xs[i]? = some x,
   fun i H v H2 => ∃ (T : Addr) (ys : List V), v = .ref T ∧ H T = none ∧ H2 = upd H T (.tup ys) ∧ ys.length = as.length ∧ ∀ (j : Nat) (a : Addr), as[j]? = some a → ∀ xs : List V, SqT K H a xs → xs[i]? = ys[j]?,
   fun i H => ∀ a ∈ as, ∃ xs : List V, SqT K H a xs ∧ xs[i]? = none⟩
def MV (N n : Nat) : List Addr := (List.range (n + 3)).map fun j => (N + j : Nat)
theorem mV {N n : Nat} {c : Nat} : c ∈ MV N n ↔ N ≤ c ∧ c < N + n + 3 := by
  unfold MV
  rw [List.mem_map]
  constructor
  · rintro ⟨j, hj, rfl⟩
    have := List.mem_range.mp hj
    omega
  · rintro ⟨h1, h2⟩
    exact ⟨c - N, List.mem_range.mpr (by omega), by show @Eq Nat _ _; omega⟩
/-- how the new objects stand at turn i -/
def ZstV (N : Nat) (as : List Addr) (i : Nat) (h : Heap) : Prop :=
  (∃ f0 b0, (f0 = .none ∨ ∃ T : Nat, f0 = rawInt T) ∧ IsZipB h (N + as.length + 2 : Nat) (N + as.length : Nat) (N + as.length + 1 : Nat) f0 b0) ∧ IsTupV h (N + as.length : Nat) (itsV N as.length) ∧
  (∃ ws : List Value, ws.length = as.length ∧ IsTupV h (N + as.length + 1 : Nat) ws) ∧ ∀ (j : Nat) (a : Addr), as[j]? = some a → h.IsTupleIter (N + j : Nat) a i
theorem drawnV {X : Cx} {pins : List (Addr × Obj)} {σ : L2.St} {H : Hp} {s : Shared} {i : Nat} (I : Inv X pins σ H s) : ∀ (as : List Addr), (∀ a ∈ as, ∃ (xs : List V) (x : V), SqT X.K H a xs ∧ xs[i]? = some x) →
    ∃ (ys : List V) (us : List Value), ys.length = as.length ∧ us.length = as.length ∧ Vals ys us ∧ (∀ (j : Nat) (a : Addr), as[j]? = some a → ∀ xs : List V, SqT X.K H a xs → xs[i]? = ys[j]?) ∧
      ∀ (j : Nat) (a : Addr), as[j]? = some a → ∃ items, s.heap.IsTuple a items ∧ ∃ x, us[j]? = some x ∧ items[i]? = some x
  | [], _ => ⟨[], [], rfl, rfl, .nil, fun j a h => by simp at h, fun j a h => by simp at h⟩
  | b :: as, h => by
    obtain ⟨ys, us, l1, l2, r, p, q⟩ := drawnV I as fun a ha => h a (List.mem_cons_of_mem _ ha)
    obtain ⟨xs, x, hs, hx⟩ := h b List.mem_cons_self
    obtain ⟨vs, r1, p1, _⟩ := I.tuple hs
    obtain ⟨u, hu, ru⟩ := r1.get hx
    refine ⟨x :: ys, u :: us, by simp [l1], by simp [l2], .cons ru r, fun j a hj zs hz => ?_, fun j a hj => ?_⟩
    · cases j with
      | zero =>
        obtain rfl : b = a := by simpa using hj
        rw [I.tuple_inj hz hs]
        exact hx
      | succ j => exact p j a (by simpa using hj) zs hz
    · cases j with
      | zero =>
        obtain rfl : b = a := by simpa using hj
        exact ⟨_, p1, u, rfl, by simpa using hu⟩
      | succ j => exact q j a (by simpa using hj)
theorem turnV {P : Program} {w : World} {K : PySem.W.Frag} {x : Str} {tpos : Pos} {N : Nat} {as : List Addr} (nl : as.length ≤ 12) (low : ∀ a ∈ as, (show Nat from a) < N) :
    Turn P w K (.Name x tpos) (ItV K as) (MV N as.length) (N + as.length + 2 : Nat) (ZstV N as) where
  mem := mV.mpr (by omega)
  obj := fun i h ⟨⟨f0, b0, hf, z⟩, t, ⟨ws, wl, o⟩, it⟩ c hc => by
    obtain ⟨c1, c2⟩ := mV.mp hc
    by_cases e1 : @Eq Nat c (N + as.length + 2)
    · subst e1; exact ⟨_, z, fun v q => nomatch q⟩
    by_cases e2 : @Eq Nat c (N + as.length + 1)
    · subst e2; exact ⟨_, o, fun v q => nomatch q⟩
    by_cases e3 : @Eq Nat c (N + as.length)
    · subst e3; exact ⟨_, t, fun v q => nomatch q⟩
    obtain ⟨j, rfl⟩ : ∃ j : Nat, c = (N + j : Nat) := ⟨c - N, by show @Eq Nat _ _; omega⟩
    have hj := List.getElem?_eq_getElem (show j < as.length by omega)
    obtain ⟨o1, e1, _, d1⟩ := it j _ hj
    exact ⟨o1, e1, fun v q => by rw [d1] at q; cases q⟩
  keep := fun i h h2 ⟨⟨f0, b0, hf, z⟩, t, ⟨ws, wl, o⟩, it⟩ k =>
    ⟨⟨f0, b0, hf, k _ (mV.mpr (by omega)) _ z⟩, k _ (mV.mpr (by omega)) _ t, ⟨ws, wl, k _ (mV.mpr (by omega)) _ o⟩, fun j a hj => (it j a hj).at fun q e => k _ (mV.mpr (by have := (List.getElem?_eq_some_iff.mp hj).1; omega)) q e⟩
  item := by
    rintro X rfl rfl rfl hc i pins s σ H E I hf ⟨⟨f0, b0, hf0, z⟩, t, ⟨ws, wl, o⟩, it⟩ ⟨ne, hg⟩
    obtain ⟨ys, us, yl, ul, rv, hy, hx⟩ := drawnV I as hg
    have zl : N + as.length + 2 < s.heap.objs.size := Heap.lt_size z
    have hd := I.ok.hd hc
    have n0 : 0 < as.length := List.length_pos_iff.mpr ne
    refine ZB.pyNext_zipB_item rfl n0 (by omega) low hf0 z t o wl it ul hx ?_
    intro h2 b2 z2 o2 it2 pr sz kp
    have z3 : ∃ f1 b1, (f1 = .none ∨ ∃ T : Nat, f1 = rawInt T) ∧ IsZipB h2 (N + as.length + 2 : Nat) (N + as.length : Nat) (N + as.length + 1 : Nat) f1 b1 := by
      rcases z2 with z2 | z2
      · exact ⟨_, _, .inr ⟨_, rfl⟩, z2⟩
      · exact ⟨_, _, hf0, z2⟩
    refine ⟨_, rfl, wpAny_pure ?_⟩
    have ob : ObjOk X.prog X.w (upd H s.heap.objs.size (.tup ys)) h2 s.heap.objs.size (.tup ys) :=
      ⟨Nat.le_trans (show ys.length ≤ 12 by omega) (by decide), us, rv, _, pr, rfl, _, rfl⟩
    have out : ∀ c : Nat, c ∉ MV N as.length → (c < N ∨ c = N + as.length ∨ N + as.length + 2 < c) := fun c nc => by
      by_cases e1 : c < N
      · exact .inl e1
      · exact .inr (.inr (Nat.lt_of_not_le fun e2 => nc (mV.mpr (by omega))))
    have J : Inv X pins σ (upd H s.heap.objs.size (.tup ys)) { s with heap := h2 } :=
      I.turnedNew (t' := s.toks) (ch := MV N as.length) (fun c q nc e => kp c q (out c nc) e) hf (Nat.le_refl _) ob
    refine ⟨.ref s.heap.objs.size, _, J, rfl, ⟨_, ys, rfl, I.hok.fresh (Nat.le_refl _), rfl, yl, hy⟩, ⟨z3, kp _ _ (.inr (.inl rfl)) t, o2, it2⟩, fun c hcm => ?_⟩
    have lt : c < s.heap.objs.size := Nat.lt_of_lt_of_le (mV.mp hcm).2 (by omega)
    rw [upd_ne (Nat.ne_of_lt lt)]
    exact (hf c hcm).1
  done := by
    rintro X rfl rfl rfl hc i pins s σ H E I hf ⟨⟨f0, b0, hf0, z⟩, t, ⟨ws, wl, o⟩, it⟩ hg
    have hd := I.ok.hd hc
    have out : ∀ c : Nat, c ∉ MV N as.length → (c < N ∨ c = N + as.length ∨ N + as.length + 2 < c) := fun c nc => by
      by_cases e1 : c < N
      · exact .inl e1
      · exact .inr (.inr (Nat.lt_of_not_le fun e2 => nc (mV.mpr (by omega))))
    refine ZB.pyNext_zipB_end hd rfl low hf0 z t o it (fun j a hj => ?_) fun h2 kp => ?_
    · obtain ⟨xs, hs, hn⟩ := hg a (List.mem_of_getElem? hj)
      obtain ⟨vs, r1, p1, _⟩ := I.tuple hs
      have l1 := r1.length
      have l2 := List.getElem?_eq_none_iff.mp hn
      exact ⟨_, p1, by simp; omega⟩
    · exact ⟨rfl, I.turnedL (t' := s.toks) (ch := MV N as.length) (fun c q nc e => kp c q (out c nc) e) hf⟩
  self := fun A i s Q E st h => by
    obtain ⟨⟨f0, b0, hf0, z⟩, _⟩ := st
    have hT : s.TypeIs (.ref (N + as.length + 2 : Nat)) "zip" := ⟨_, z, rfl⟩
    refine wpAny_pyIter_slot hT F.slot_zip_iter (wpAny_call_entry F.slot_zip_iter hT F.entry_zip_iter ?_ (F.args_zip_iter_1 _))
    show wpAny _ _ (ret (.ref (N + as.length + 2 : Nat))) _ _ s
    exact wpAny_pure ⟨_, rfl, "zip", _, hT, F.slot_zip_next.lookup, h⟩
end Yw

set_option Elab.async false
set_option linter.all false
set_option maxRecDepth 100000
set_option maxHeartbeats 4000000
/-! Own layer: zip(*words) as what is walked. -/
namespace Yw
open PySem PySem.Spec PyProof.Rows L2
theorem callWith_SZ {M : Model} {A : Around} {E : Value → Shared → Prop} {s : Shared} {env : Env} {pos p : Pos} {T : String} {Q : Value → Shared → Prop} {e : Expr}
    (h : wpAny M A (eval e env) (fun v s₁ => PySem.W.StarOf M A E v (fun vs s₂ => True ∧ wpAny M A (call (.type T) vs) Q E s₂) s₁) E s)
    (he : starEach [.Starred e p] env = [(true, eval e env)] := by rfl) :
    wpAny M A (callWith pos (.type T) [] (backTo pos (starEach [.Starred e p] env)) []) Q E s := by
  rw [he]
  refine PySem.W.ks_call (P := fun _ => True) rfl (fun h _ => ⟨.machine, .inr (.inl rfl), PySem.W.Looks.of_pure rfl⟩) (PySem.W.ks_lone h)
theorem vals_refs : ∀ {ps : List Addr} {us : List Value}, Vals (ps.map V.ref) us → us = ps.map Value.ref
  | [], us, h => by cases h; rfl
  | p :: ps, us, h => by
    cases h with
    | cons a r =>
      have e := vals_refs (ps := ps) r
      subst e
      obtain rfl : _ = Value.ref p := a
      rfl
def iZipV (K : PySem.W.Frag) (te : TE) : TI := fun σ H R => te σ H fun y H1 => ∃ (l : Addr) (ps : List Addr), y = .ref l ∧ (SqT K H1 l (ps.map V.ref) ∨ SqL K H1 l (ps.map V.ref)) ∧ ps.length ≤ 12 ∧ (∀ a ∈ ps, ∃ xs : List V, SqT K H1 a xs) ∧ R (ItV K ps) H1
theorem pi_zipS {X : Cx} {e : Expr} {te : TE} {x : Str} {p q pos tpos : Pos} (gl : Gl X "zip") (no : X.mg "zip" = none) (he : PE X e te)
    (hs : starEach [.Starred e q] X.env = [(true, eval e X.env)] := by rfl) :
    PI X (.Name x tpos) (.Call (.Name "zip" p) [.Starred e q] [] pos) (iZipV X.K te) := by
  refine ⟨fun pins s σ H R I h => Call_ (ld_blt I gl no PyProof.Rows.boot_zip (callWith_SZ (thn (he.run pins s σ H _ I h) fun v s1 ⟨y, H1, I1, ry, l, ps, ey, hl, nl, ht, r⟩ => ?_) hs))⟩
  subst ey
  obtain rfl : v = Value.ref l := ry
  refine StX.star_any I1 hl fun us s2 I2 rv => ⟨trivial, ?_⟩
  obtain rfl := vals_refs rv
  have tup : ∀ a ∈ ps, ∃ items, s2.heap.IsTuple a items := fun a ha => by
    obtain ⟨xs, hx⟩ := ht a ha
    obtain ⟨vs, _, p1, _⟩ := I2.tuple hx
    exact ⟨_, p1⟩
  refine zip_beginsV tup nl fun h2 z t o it kp => wpAny_pyIter_zip z ?_
  have low : ∀ a ∈ ps, (show Nat from a) < s2.heap.objs.size := fun a ha => by
    obtain ⟨items, o, ho, _⟩ := tup a ha
    exact Heap.lt_size ho
  refine ⟨(s2.heap.objs.size + ps.length + 2 : Nat), MV s2.heap.objs.size ps.length, ZstV s2.heap.objs.size ps, _, H1, rfl, I2.kept (t' := s2.toks) kp, turnV nl low, ⟨⟨_, _, .inl rfl, z⟩, t, ⟨_, by rw [List.length_map, itsV_len], o⟩, it⟩, fun c hc => ?_, r⟩
  have up : s2.heap.objs.size ≤ c := (mV.mp hc).1
  exact I2.fpOk up (I2.hok.fresh up)
/-- the columns of rows of m items each -/
def colsD (m : Nat) (wss : List (List PyData)) : List PyData := if wss = [] then [] else (List.range m).map fun i => PyData.tuple (wss.map fun r => r.getD i .none)
section
variable {K : PySem.W.Frag} {G G1 H : Hp} {es : List Ent} {M : MM}
theorem Wf.tupN (w : Wf K G M H) {T : Addr} {ys : List V} {ds : List PyData} (n : H T = none) (h : Rps K G ys ds) :
    ∃ G2, Grow (dom M) G H G2 (upd H T (.tup ys)) ∧ Wf K G2 M (upd H T (.tup ys)) ∧ Rp K G2 (.ref T) (.tuple ds) := by
  have zz := w.newG (o := HO.tup ys) n
  have u := Ex.add (o := HO.tup ys) (w.none_g n)
  exact ⟨_, zz.2, zz.1, .tup (.inl (.inl upd_same)) (dpsUp u _ _ h)⟩
theorem rps_tups : ∀ {xs : List V} {wss : List (List PyData)}, Rps K G xs (wss.map PyData.tuple) → ∃ ps : List Addr, xs = ps.map V.ref ∧ ps.length = wss.length ∧ ∀ (j : Nat) (a : Addr) (r : List PyData), ps[j]? = some a → wss[j]? = some r → ∃ vs : List V, SqT K G a vs ∧ Rps K G vs r
  | [], [], _ => ⟨[], rfl, rfl, fun j a r h => by simp at h⟩
  | _ :: _, [], h => by cases h
  | [], _ :: _, h => by cases h
  | x :: xs, r0 :: wss, h => by
    cases h with
    | cons h1 h2 =>
      obtain ⟨ps, e, l, q⟩ := rps_tups h2
      cases h1 with
      | tup s hr =>
        rename_i a vs
        refine ⟨a :: ps, by rw [e]; rfl, by simp [l], fun j b r hb hw => ?_⟩
        cases j with
        | zero =>
          obtain rfl : a = b := by simpa using hb
          obtain rfl : r0 = r := by simpa using hw
          exact ⟨vs, s, hr⟩
        | succ j => exact q j b r (by simpa using hb) (by simpa using hw)
theorem rps_of_at : ∀ {ys : List V} {ds : List PyData}, ys.length = ds.length → (∀ (j : Nat) (v : V) (d : PyData), ys[j]? = some v → ds[j]? = some d → Rp K G v d) → Rps K G ys ds
  | [], [], _, _ => .nil
  | [], _ :: _, h, _ => nomatch h
  | _ :: _, [], h, _ => nomatch h
  | v :: ys, d :: ds, h, q => .cons (q 0 v d rfl rfl) (rps_of_at (by simpa using h) fun j x y hx hy => q (j + 1) x y (by simpa using hx) (by simpa using hy))
theorem yl_zipV {ps : List Addr} {wss : List (List PyData)} {m : Nat} (pl : ps.length = wss.length) (hq : ∀ (j : Nat) (a : Addr) (r : List PyData), ps[j]? = some a → wss[j]? = some r → ∃ vs : List V, SqT K G1 a vs ∧ Rps K G1 vs r) (hm : ∀ r ∈ wss, r.length = m) : Yl K G1 (ItV K ps) (colsD m wss) := fun M G H e w => by
  have at_ : ∀ a ∈ ps, ∃ (j : Nat) (r : List PyData) (vs : List V), ps[j]? = some a ∧ wss[j]? = some r ∧ SqT K H a vs ∧ Rps K G vs r ∧ r.length = m := fun a ha => by
    obtain ⟨j, hj⟩ := List.getElem?_of_mem ha
    have hl := (List.getElem?_eq_some_iff.mp hj).1
    have hr := List.getElem?_eq_getElem (show j < wss.length by omega)
    obtain ⟨vs, hs, hv⟩ := hq j a _ hj hr
    exact ⟨j, _, vs, hj, hr, w.gh.t (e.t hs), dpsUp e _ _ hv, hm _ (List.getElem_mem _)⟩
  refine ⟨fun k d q => ?_, fun a ha => ?_⟩
  · unfold colsD at q
    by_cases c : wss = []
    · rw [if_pos c] at q; simp at q
    rw [if_neg c, List.getElem?_map] at q
    have hk : k < m := by
      have := (List.getElem?_eq_some_iff.mp (show ((List.range m).map fun i => PyData.tuple (wss.map fun r => r.getD i .none))[k]? = some d by rw [List.getElem?_map]; exact q)).1
      simpa using this
    rw [List.getElem?_range hk] at q
    obtain rfl := Option.some.inj q
    refine ⟨⟨fun z => c (List.length_eq_zero_iff.mp (by rw [← pl, z]; rfl)), fun a ha => ?_⟩, fun z H1 ⟨T, ys, e1, n, e2, yl, hy⟩ => ?_⟩
    · obtain ⟨j, r, vs, _, _, hs, hv, hl⟩ := at_ a ha
      have l2 := dps_len hv
      exact ⟨vs, vs[k], hs, List.getElem?_eq_getElem (by omega)⟩
    · subst e1 e2
      refine w.tupN n (rps_of_at (by rw [yl, pl, List.length_map]) fun j v d hv hd => ?_)
      rw [List.getElem?_map] at hd
      have hjl := (List.getElem?_eq_some_iff.mp hv).1
      have ha := List.getElem?_eq_getElem (show j < ps.length by omega)
      have hw := List.getElem?_eq_getElem (show j < wss.length by omega)
      generalize ps[j] = a at ha
      generalize hr0 : wss[j] = r at hw
      rw [hw] at hd
      obtain rfl : r.getD k .none = d := Option.some.inj hd
      obtain ⟨vs, hs, hvr⟩ := hq j a r ha hw
      have hl := hm r (List.mem_of_getElem? hw)
      have hs2 := w.gh.t (e.t hs)
      have hvr2 := dpsUp e _ _ hvr
      have l2 := dps_len hvr2
      have z := hy j a ha vs hs2
      rw [hv] at z
      have hrk : r[k]? = some (r.getD k .none) := by
        rw [List.getD_eq_getElem?_getD, List.getElem?_eq_getElem (show k < r.length by omega)]
        rfl
      obtain ⟨v2, hv2, rv2⟩ := dps_at hvr2 hrk
      rw [hv2] at z
      cases z
      exact rv2
  · obtain ⟨j, r, vs, _, _, hs, hv, hl⟩ := at_ a ha
    have l2 := dps_len hv
    refine ⟨vs, hs, List.getElem?_eq_none_iff.mpr ?_⟩
    unfold colsD
    rw [if_neg (fun z => by rw [z] at pl; have := List.length_eq_zero_iff.mp pl; rw [this] at ha; cases ha), List.length_map, List.length_range]
    omega
theorem iw_zipS {te : TE} {P : List PyData → MM → Prop} (h : Ev K te es M fun y M1 => ∃ (wss : List (List PyData)) (m : Nat), y = .dat (.list (wss.map PyData.tuple)) ∧ wss.length ≤ 12 ∧ (∀ r ∈ wss, r.length = m) ∧ P (colsD m wss) M1) : Iw K (iZipV K te) es M P := fun σ G H R en w k =>
  h σ G H _ en w fun y M1 v G1 H1 p d g w1 x => by
    obtain ⟨wss, m, e, nl, hm, p⟩ := p
    subst e
    cases x with
    | lst s a =>
      obtain ⟨ps, e, pl, q⟩ := rps_tups a
      subst e
      exact ⟨_, ps, rfl, .inr (SqL.of (w1.gh _ _ s)), by omega, fun a ha => by
        obtain ⟨j, hj⟩ := List.getElem?_of_mem ha
        have hl := (List.getElem?_eq_some_iff.mp hj).1
        obtain ⟨vs, hs, _⟩ := q j a _ hj (List.getElem?_eq_getElem (show j < wss.length by omega))
        exact ⟨vs, w1.gh.t hs⟩, k _ M1 G1 H1 _ p d g w1 (yl_zipV pl q hm)⟩
end
end Yw

set_option Elab.async false
set_option linter.all false
set_option maxRecDepth 100000
set_option maxHeartbeats 4000000
/-! Own layer: a dict made by a comprehension, its keys ints and apart. -/
namespace Yw
open PySem PySem.Spec PyProof.Rows L2
section
variable {K : PySem.W.Frag} {G0 G G1 H0 H H1 : Hp} {D0 : List Addr} {M M1 : MM} {es : List Ent} {W : DE}
theorem put_fresh {kvs : IVs} {xs : List V} {i : Int} {d : PyData} {v : V} (hl : xs.length = kvs.length) (h : i ∉ kvs.map (·.1)) : putK ((keysI kvs).zip xs) (.inl i) v = (keysI (kvs ++ [(i, d)])).zip (xs ++ [v]) := by
  have hn : (Sum.inl i : Key) ∉ ((keysI kvs).zip xs).map (·.1) := fun z => by
    rw [keys_zip hl, List.map_map] at z
    obtain ⟨p, hp, e⟩ := List.mem_map.mp z
    exact h (List.mem_map.mpr ⟨p, hp, Sum.inl.inj e⟩)
  rw [putK_new _ (valV_none hn)]
  unfold keysI
  rw [List.map_append, List.zip_append (by rw [List.length_map]; exact hl.symm)]
  rfl
theorem ev_dc {P : Ent → MM → Prop} {wi : TI} {g : TG} {tt : TT} {tk tv : TE} {vs : List Nat} (ow : Own g vs) (h : Iw K wi es M fun ds M1 => ∃ J : Nat → IVs → MM → Prop, J 0 [] M1 ∧
      (∀ k d acc M2, ds[k]? = some d → J k acc M2 → acc.length < 1000000 ∧ Tg K g (.dat d) (wipeE es vs) M2 fun es3 M3 => EvT K tt es3 M3 fun b M4 =>
        (b = true → Ev K tk es3 M4 fun e M5 => ∃ i : Int, e = .dat (.int i) ∧ i ∉ acc.map (·.1) ∧ Ev K tv es3 M5 fun e2 M6 => ∃ d5, e2 = .dat d5 ∧ J (k + 1) (acc ++ [(i, d5)]) M6) ∧ (b = false → J (k + 1) acc M4)) ∧
      (∀ acc M2, J ds.length acc M2 → P (.dat (dicI acc)) M2)) : Ev K (tDc wi g tt tk tv vs) es M P := fun σ G H Q en w r =>
  h σ G H _ en w fun ds M1 G1 H1 J p d g1 w1 y => by
    obtain ⟨I, i0, st, fin⟩ := p
    have r1 := r.go d g1
    intro C hC
    have hC1 : G1 C = none := w1.none_g hC
    have start : Grow (dom M1) G1 H1 G1 (upd H1 C (.dK [])) ∧ Wf K G1 M1 (upd H1 C (.dK [])) := by
      have z := w1.newD (vs := []) (kvs := []) hC .nil
      exact ⟨z.2, z.1.part (List.sublist_append_left _ _)⟩
    refine ⟨fun i m H2 => m = ds.length - i ∧ i ≤ ds.length ∧ ∃ G2 M2 acc xs, I i acc M2 ∧ dom M2 = dom M1 ∧ Grow (dom M1) G1 H1 G2 H2 ∧ Wf K G2 M2 H2 ∧ H2 C = some (.dK ((keysI acc).zip xs)) ∧ Rps K G2 xs (acc.map (·.2)) ∧ G2 C = none,
      ⟨ds.length, by simp, Nat.zero_le _, G1, M1, [], [], i0, rfl, start.1, start.2, upd_same, .nil, hC1⟩, ?_⟩
    rintro i m H2 ⟨rfl, hi, G2, M2, acc, xs, iv, d2, g2, w2, hc, hx, n2⟩
    have nC : ∀ {M' : MM}, dom M' = dom M1 → C ∉ dom M' := fun e => by rw [e]; exact w1.none_m hC
    have yy := y M2 G2 H2 g2.gg w2
    by_cases c : i < ds.length
    · obtain ⟨q1, q2⟩ := yy.1 i ds[i] (List.getElem?_eq_getElem c)
      obtain ⟨hl, stp⟩ := st i ds[i] acc M2 (List.getElem?_eq_getElem c) iv
      refine .inr ⟨q1, fun H2 => ∃ G2 M2 acc xs, I (i + 1) acc M2 ∧ dom M2 = dom M1 ∧ Grow (dom M1) G1 H1 G2 H2 ∧ Wf K G2 M2 H2 ∧ H2 C = some (.dK ((keysI acc).zip xs)) ∧ Rps K G2 xs (acc.map (·.2)) ∧ G2 C = none, fun H3 n3 => ⟨ds.length - (i + 1), by omega, rfl, c, n3⟩, fun x H3 hy => ?_⟩
      obtain ⟨G3, g3, w3, r3⟩ := q2 x H3 hy
      have enw : En K G3 (L2.wipe σ vs) (wipeE es vs) := (((en.up g1.gg).up g2.gg).up g3.gg).wipe vs
      have main : g x (L2.wipe σ vs) H3 fun σ2 H4 => tt σ2 H4 fun b H5 => if b = true then tk σ2 H5 fun y H6 => tv σ2 H6 fun z H7 => ∃ kvs k, y = kV k ∧ H7 C = some (.dK kvs) ∧ kvs.length < sizeLine ∧ ((∃ G2 M2 acc2 xs, I (i + 1) acc2 M2 ∧ dom M2 = dom M1 ∧ Grow (dom M1) G1 H1 G2 (upd H7 C (.dK (putK kvs k z))) ∧ Wf K G2 M2 (upd H7 C (.dK (putK kvs k z))) ∧ (upd H7 C (.dK (putK kvs k z))) C = some (.dK ((keysI acc2).zip xs)) ∧ Rps K G2 xs (acc2.map (·.2)) ∧ G2 C = none))
          else (∃ G2 M2 acc xs, I (i + 1) acc M2 ∧ dom M2 = dom M1 ∧ Grow (dom M1) G1 H1 G2 H5 ∧ Wf K G2 M2 H5 ∧ H5 C = some (.dK ((keysI acc).zip xs)) ∧ Rps K G2 xs (acc.map (·.2)) ∧ G2 C = none) := by
        have c3 := g3.kp C _ hc (nC d2)
        have m3 : G3 C = none := (g3.fr C (by rw [hc]; exact fun z => nomatch z)).trans n2
        refine stp x (L2.wipe σ vs) G3 H3 _ r3 enw w3 fun es4 M4 σ4 G4 H4 s4 d4 g4 w4 en4 => ?_
        have c4 := g4.kp C _ c3 (nC d2)
        have m4 : G4 C = none := (g4.fr C (by rw [c3]; exact fun z => nomatch z)).trans m3
        refine s4 σ4 G4 H4 _ en4 w4 fun b M5 G5 H5 s5 d5 g5 w5 => ?_
        have c5 := g5.kp C _ c4 (nC (d4.trans d2))
        have m5 : G5 C = none := (g5.fr C (by rw [c4]; exact fun z => nomatch z)).trans m4
        have gg5 : Grow (dom M1) G1 H1 G5 H5 := ((g2.trans (d2 ▸ g3)).trans (d2 ▸ g4)).trans ((d4.trans d2) ▸ g5)
        cases b with
        | false => exact iteF ⟨G5, M5, acc, xs, s5.2 rfl, d5.trans (d4.trans d2), gg5, w5, c5, dpsUp (((g3.gg.tr g4.gg).tr g5.gg)) _ _ hx, m5⟩
        | true =>
          refine iteT (s5.1 rfl σ4 G5 H5 _ (en4.up g5.gg) w5 fun e M6 v G6 H6 p6 d6 g6 w6 x6 => ?_)
          obtain ⟨ik, e6, fresh, p6⟩ := p6
          subst e6
          cases x6
          have c6 := g6.kp C _ c5 (nC (d5.trans (d4.trans d2)))
          have m6 : G6 C = none := (g6.fr C (by rw [c5]; exact fun z => nomatch z)).trans m5
          refine p6 σ4 G6 H6 _ ((en4.up g5.gg).up g6.gg) w6 fun e2 M7 v7 G7 H7 p7 d7 g7 w7 x7 => ?_
          obtain ⟨dd, e7, i7⟩ := p7
          subst e7
          have D6 := d6.trans (d5.trans (d4.trans d2))
          have c7 := g7.kp C _ c6 (nC D6)
          have m7 : G7 C = none := (g7.fr C (by rw [c6]; exact fun z => nomatch z)).trans m6
          have gg7 := (gg5.trans ((d5.trans (d4.trans d2)) ▸ g6)).trans (D6 ▸ g7)
          have hx7 : Rps K G7 xs (acc.map (·.2)) := dpsUp ((((g3.gg.tr g4.gg).tr g5.gg).tr g6.gg).tr g7.gg) _ _ hx
          have lx : xs.length = acc.length := by rw [dps_len hx7, List.length_map]
          have lz : ((keysI acc).zip xs).length < 1000000 := by
            rw [List.length_zip]
            omega
          refine ⟨(keysI acc).zip xs, .inl ik, rfl, c7, Nat.lt_trans lz (by decide), G7, M7, acc ++ [(ik, dd)], xs ++ [v7], i7, d7.trans D6, ?_, ?_, ?_, ?_, m7⟩
          · refine ⟨gg7.gg, gg7.fr, fun a o ea na => ?_, fun a na => ?_⟩
            · rw [upd_ne (ne_of_none ea hC)]; exact gg7.kp a o ea na
            · by_cases ce : a = C
              · subst ce; exact absurd hC na
              · rw [upd_ne ce]; exact gg7.al a na
          · refine ⟨fun a u ea => ?_, fun z hz => ?_, w7.mg, w7.nd⟩
            · rw [upd_ne (ne_of_none ea m7)]; exact w7.gh a u ea
            · refine moUp (Ex.rfl' G7) (upd_ne ?_) (w7.mh z hz)
              rintro rfl
              exact nC (d7.trans D6) (List.mem_map.mpr ⟨z, hz, rfl⟩)
          · rw [upd_same, put_fresh (d := dd) lx fresh]
          · rw [List.map_append]
            exact dps_app hx7 (.cons x7 .nil)
      have both := ow x (L2.wipe σ vs) H3 _ main
      rw [wipe_twice] at both
      exact both
    · have e : i = ds.length := by omega
      subst e
      refine .inl ⟨yy.2, ?_⟩
      have up := Ex.add (o := HO.dK ((keysI acc).zip xs)) n2
      have lx : xs.length = acc.length := by rw [dps_len hx, List.length_map]
      refine r1 (.dat (dicI acc)) M2 (.ref C) (upd G2 C (.dK ((keysI acc).zip xs))) H2 (fin acc M2 iv) d2 ⟨g2.gg.tr up, fun a na => ?_, g2.kp, g2.al⟩ ⟨fun a u ea => ?_, fun z hz => ?_, fun z hz => ?_, w2.nd⟩ (dicI_rp (.inl upd_same) lx (dpsUp up _ _ hx))
      · rw [upd_ne (by rintro rfl; exact na hC)]
        exact g2.fr a na
      · by_cases ce : a = C
        · subst ce; rw [upd_same] at ea; rw [hc]; exact ea
        · rw [upd_ne ce] at ea; exact w2.gh a u ea
      · exact moUp up rfl (w2.mh z hz)
      · rw [upd_ne (by rintro rfl; exact nC d2 (List.mem_map.mpr ⟨z, hz, rfl⟩))]
        exact w2.mg z hz
end
end Yw

set_option Elab.async false
set_option linter.all false
set_option maxRecDepth 100000
set_option maxHeartbeats 4000000
/-! Own layer: a walk over a dict's keys (the dict is held while it lasts), a dict that a comprehension makes and that changes then, its size, its text. -/
namespace Yw
open PySem PySem.Spec PyProof.Rows L2
/-! ### the dict at d, plain or held -/
structure Sw (d : Addr) (l : List (Key × V)) (G G' : Hp) : Prop where
  o : ∀ b, b ≠ d → G' b = G b
  x : Rd G d (.dK l)
  y : Rd G' d (.dK l)
section
variable {K : PySem.W.Frag} {G G' H H' : Hp} {d : Addr} {l : List (Key × V)}
theorem rd_no {a : Addr} {u w : HO} (h : Rd G a u) (hw : G a = some w) : w = u ∨ ∃ o, w = .frz o u := by
  rcases h with e | ⟨o, e⟩
  · rw [hw] at e; exact .inl (Option.some.inj e)
  · rw [hw] at e; exact .inr ⟨o, Option.some.inj e⟩
theorem Sw.keep (s : Sw d l G G') {a : Addr} {u : HO} (h : G a = some u) (n1 : u ≠ .dK l) (n2 : ∀ o, u ≠ .frz o (.dK l)) : G' a = some u := by
  rw [s.o a]
  · exact h
  · rintro rfl
    rcases rd_no s.x h with e | ⟨o, e⟩
    · exact n1 e
    · exact n2 o e
theorem Sw.lst (s : Sw d l G G') {a : Addr} {xs : List V} (h : G a = some (.lst xs)) : G' a = some (.lst xs) := s.keep h (fun z => nomatch z) fun o z => nomatch z
theorem Sw.sqt (s : Sw d l G G') {a : Addr} {xs : List V} (h : SqT K G a xs) : SqT K G' a xs := by
  rcases h with (h | ⟨o, h⟩) | h
  · exact .inl (.inl (s.keep h (fun z => nomatch z) fun o z => nomatch z))
  · exact .inl (.inr ⟨o, s.keep h (fun z => nomatch z) fun o z => nomatch z⟩)
  · exact .inr h
theorem Sw.sql (s : Sw d l G G') {a : Addr} {xs : List V} (h : SqL K G a xs) : SqL K G' a xs := by
  rcases h with (h | ⟨o, h⟩) | h
  · exact .inl (.inl (s.keep h (fun z => nomatch z) fun o z => nomatch z))
  · exact .inl (.inr ⟨o, s.keep h (fun z => nomatch z) fun o z => nomatch z⟩)
  · exact .inr h
theorem Sw.rd (s : Sw d l G G') {a : Addr} {k : List (Key × V)} (h : Rd G a (.dK k)) : Rd G' a (.dK k) := by
  by_cases c : a = d
  · subst c
    have e : k = l := by
      rcases h with h | ⟨o, h⟩
      · rcases rd_no s.x h with e | ⟨o, e⟩
        · cases e; rfl
        · cases e
      · rcases rd_no s.x h with e | ⟨o2, e⟩
        · cases e
        · cases e; rfl
    subst e
    exact s.y
  · rcases h with h | ⟨o, h⟩
    · exact .inl ((s.o a c).trans h)
    · exact .inr ⟨o, (s.o a c).trans h⟩
theorem swUp (s : Sw d l G G') {dt : PyData} {v : V} (h : Rp K G v dt) : Rp K G' v dt :=
  Rp.rec (motive_1 := fun v d _ => Rp K G' v d) (motive_2 := fun vs ds _ => Rps K G' vs ds) .non (fun b => .bl b) (fun i => .int i) (fun x => .str x) (fun g _ ih => .lst (s.lst g) ih) (fun q _ ih => .tup (s.sqt q) ih) (fun g l k _ ih => .dic (s.rd g) l k ih) .nil (fun _ _ a b => .cons a b) h
theorem swsUp (s : Sw d l G G') : ∀ {ds : List PyData} {vs : List V}, Rps K G vs ds → Rps K G' vs ds
  | _, _, .nil => .nil
  | _, _, .cons a b => .cons (swUp s a) (swsUp s b)
theorem Sw.mo (s : Sw d l G G') {a : Addr} {mo : MO} (h : H' a = H a) (m : MOk K G H a mo) : MOk K G' H' a mo := by
  cases mo with
  | lst ds =>
    obtain ⟨xs, p, q⟩ := m
    exact ⟨xs, h.trans p, swsUp s q⟩
  | dct kvs =>
    obtain ⟨vs, p, q⟩ := m
    refine ⟨vs, h.trans p, ?_⟩
    clear p
    induction q with
    | nil => exact .nil
    | cons r _ ih => exact .cons ⟨r.1, swUp s r.2⟩ ih
  | tab q =>
    obtain ⟨ps, p, t, k⟩ := m
    refine ⟨ps, h.trans p, t, fun at_ cv hc => (k at_ cv hc).elim fun c z => ⟨c, z.1, s.keep z.2 (fun y => ?_) fun o y => ?_⟩⟩
    · unfold LamX.CodeO at y; cases y
    · unfold LamX.CodeO at y; cases y
/-- what stands here goes over when nothing here says that a dict is held -/
theorem Sw.ent (s : Sw d l G G') (pl : G d = some (.dK l)) {v : V} {e : Ent} (h : EntV K G v e) : EntV K G' v e := by
  cases e with
  | no => trivial
  | dat d => exact swUp s h
  | ref a => exact h
  | ty n => exact h
  | scr ns => exact h.elim fun a z => ⟨a, z.1, s.sql z.2⟩
  | pln ds => obtain ⟨a, xs, o, e, g, n, r⟩ := h; exact ⟨a, xs, o, e, s.keep g (fun z => nomatch z) (fun o z => nomatch z), n, swsUp s r⟩
  | fdi kvs =>
    obtain ⟨a, xs, o, e, g, n, r⟩ := h
    have c : a ≠ d := by
      rintro rfl
      rw [pl] at g
      cases g
    exact ⟨a, xs, o, e, (s.o a c).trans g, n, swsUp s r⟩
theorem Sw.en (s : Sw d l G G') (pl : G d = some (.dK l)) {σ : L2.St} {es : List Ent} (h : En K G σ es) : En K G' σ es := by
  induction h with
  | nil => exact .nil
  | @cons o e σ es a _ ih =>
    refine .cons ?_ ih
    cases o with
    | none => cases e <;> first | trivial | exact a.elim
    | some v =>
      cases e with
      | no => trivial
      | dat x => exact s.ent (K := K) (v := v) (e := .dat x) pl a
      | ref x => exact s.ent (K := K) (v := v) (e := .ref x) pl a
      | ty x => exact s.ent (K := K) (v := v) (e := .ty x) pl a
      | scr x => exact s.ent (K := K) (v := v) (e := .scr x) pl a
      | pln x => exact s.ent (K := K) (v := v) (e := .pln x) pl a
      | fdi x => exact s.ent (K := K) (v := v) (e := .fdi x) pl a
theorem En.also {σ : L2.St} {es : List Ent} (h : En K G σ es) {v : V} {e : Ent} (n : e ≠ .no) (r : EntV K G v e) : ∀ {i : Nat}, σ[i]? = some (some v) → En K G σ (es.set i e) := by
  induction h with
  | nil => intro i hi; simp at hi
  | @cons o e0 σ es a b ih =>
    intro i hi
    cases i with
    | zero =>
      obtain rfl : o = some v := by simpa using hi
      refine .cons ?_ b
      cases e <;> first | exact absurd rfl n | exact r
    | succ j => exact .cons a (ih (by simpa using hi))
/-- the dict is held .. -/
theorem lockW {M : MM} (w : Wf K G M H) (g : G d = some (.dK l)) (od : Obj) : Sw d l G (upd G d (.frz od (.dK l))) ∧ Wf K (upd G d (.frz od (.dK l))) M (upd H d (.frz od (.dK l))) := by
  have s : Sw d l G (upd G d (.frz od (.dK l))) := ⟨fun b n => upd_ne n, .inl g, .inr ⟨od, upd_same⟩⟩
  refine ⟨s, fun a u ea => ?_, fun p hp => ?_, fun p hp => ?_, w.nd⟩
  · by_cases c : a = d
    · subst c; rw [upd_same] at ea; rw [upd_same]; exact ea
    · rw [upd_ne c] at ea; rw [upd_ne c]; exact w.gh a u ea
  · refine s.mo (upd_ne ?_) (w.mh p hp)
    rintro rfl
    have := w.mg p hp
    rw [g] at this
    cases this
  · rw [upd_ne]
    · exact w.mg p hp
    · rintro rfl
      have := w.mg p hp
      rw [g] at this
      cases this
/-- .. and let go again -/
theorem freeW {M M1 : MM} {G1 H1 : Hp} {od : Obj} (w : Wf K G M H) (g : G d = some (.dK l)) (dM : dom M1 = dom M) (gr : Grow (dom M) (upd G d (.frz od (.dK l))) (upd H d (.frz od (.dK l))) G1 H1) (w1 : Wf K G1 M1 H1) :
    H1 d = some (.frz od (.dK l)) ∧ Sw d l G1 (upd G1 d (.dK l)) ∧ Grow (dom M) G H (upd G1 d (.dK l)) (upd H1 d (.dK l)) ∧ Wf K (upd G1 d (.dK l)) M1 (upd H1 d (.dK l)) := by
  have g1 : G1 d = some (.frz od (.dK l)) := gr.gg d _ upd_same
  have h1 := w1.gh d _ g1
  have hd : H d = some (.dK l) := w.gh d _ g
  have s : Sw d l G1 (upd G1 d (.dK l)) := ⟨fun b n => upd_ne n, .inr ⟨od, g1⟩, .inl upd_same⟩
  have nM : ∀ p ∈ M1, p.1 ≠ d := by
    rintro p hp rfl
    have : p.1 ∈ dom M := dM ▸ List.mem_map.mpr ⟨p, hp, rfl⟩
    obtain ⟨q, hq, e⟩ := List.mem_map.mp this
    have z := w.mg q hq
    rw [e, g] at z
    cases z
  refine ⟨h1, s, ⟨fun a u ea => ?_, fun a na => ?_, fun a u ea na => ?_, fun a na => ?_⟩, ⟨fun a u ea => ?_, fun p hp => s.mo (upd_ne (nM p hp)) (w1.mh p hp), fun p hp => ?_, w1.nd⟩⟩
  · by_cases c : a = d
    · subst c; rw [upd_same, ← g]; exact ea
    · rw [upd_ne c]; exact gr.gg a u (by rw [upd_ne c]; exact ea)
  · by_cases c : a = d
    · subst c; rw [upd_same]; exact g.symm
    · rw [upd_ne c, gr.fr a (by rw [upd_ne c]; exact na), upd_ne c]
  · by_cases c : a = d
    · subst c; rw [upd_same, ← hd]; exact ea
    · rw [upd_ne c]; exact gr.kp a u (by rw [upd_ne c]; exact ea) na
  · by_cases c : a = d
    · subst c; rw [upd_same]; exact fun z => nomatch z
    · rw [upd_ne c]; exact gr.al a (by rw [upd_ne c]; exact na)
  · by_cases c : a = d
    · subst c; rw [upd_same] at ea; rw [upd_same]; exact ea
    · rw [upd_ne c] at ea; rw [upd_ne c]; exact w1.gh a u ea
  · rw [upd_ne (nM p hp)]; exact w1.mg p hp
end
/-- while the expression runs the dict is held, if it isn't so already -/
def tLockD (t : TE) : TE := fun σ H Q => t σ H Q ∨ tLockE t σ H Q
theorem pe_lockD {X : Cx} {e : Expr} {t : TE} (h : PE X e t) : PE X e (tLockD t) := by
  refine ⟨fun pins s σ H Q I hw => ?_⟩
  rcases hw with hw | hw
  · exact h.run pins s σ H Q I hw
  · exact (pe_lock h).run pins s σ H Q I hw
/-- an expression that makes a dict of its own -/
def EvD (K : PySem.W.Frag) (te : TE) (es : List Ent) (M : MM) (P : IVs → MM → Prop) : Prop :=
  ∀ σ G H Q, En K G σ es → Wf K G M H → (∀ kvs M1 C vs G1 H1, P kvs M1 → dom M1 = dom M → Grow (dom M) G H G1 H1 → Wf K G1 M1 H1 → H C = none → G1 C = none → H1 C = some (.dK ((keysI kvs).zip vs)) → vs.length = kvs.length → Rps K G1 vs (kvs.map (·.2)) → Q (.ref C) H1) → te σ H Q
section
variable {K : PySem.W.Frag} {M : MM} {P : Ent → MM → Prop} {es : List Ent}
theorem ev_lockD {te : TE} {i : Nat} {kvs : IVs} (h : es[i]? = some (.dat (dicI kvs))) (b : Ev K te (es.set i (.fdi kvs)) M fun e M1 => ∃ d, e = .dat d ∧ P (.dat d) M1) : Ev K (tLockD te) es M P := fun σ G H Q en w q => by
  obtain ⟨v, hv, rv⟩ := en.at (e := .dat (dicI kvs)) h (fun z => nomatch z)
  obtain ⟨a, xs, rfl, gp, hl, hr⟩ := rp_dicI rv
  rcases gp with g | ⟨o, g⟩
  · refine .inr ⟨a, .dK ((keysI kvs).zip xs), w.gh a _ g, trivial, fun od => ?_⟩
    have z := lockW w g od
    refine b σ _ _ _ ((z.1.en g en).also (e := .fdi kvs) (fun y => nomatch y) ⟨a, xs, od, rfl, upd_same, hl, swsUp z.1 hr⟩ hv) z.2 fun e M1 v1 G1 H1 p d1 g1 w1 x1 => ?_
    obtain ⟨d, rfl, p⟩ := p
    obtain ⟨h1, s, gr, w2⟩ := freeW w g d1 g1 w1
    exact ⟨h1, q _ _ _ _ _ p d1 gr w2 (swUp s x1)⟩
  · refine .inl (b σ G H Q (en.also (e := .fdi kvs) (fun y => nomatch y) ⟨a, xs, o, rfl, g, hl, hr⟩ hv) w fun e M1 v1 G1 H1 p d1 g1 w1 x1 => ?_)
    obtain ⟨d, rfl, p⟩ := p
    exact q _ _ _ _ _ p d1 g1 w1 x1
/-- the held dict, read -/
theorem ev_fdi {i : Nat} {kvs : IVs} (h : es[i]? = some (.fdi kvs)) (p : P (.dat (dicI kvs)) M) : Ev K (tVar i) es M P := fun σ G H Q en w q => by
  obtain ⟨v, hv, rv⟩ := en.at (e := .fdi kvs) h (fun z => nomatch z)
  obtain ⟨a, xs, o, rfl, g, hl, hr⟩ := rv
  exact ⟨_, hv, q.val w p (dicI_rp (.inr ⟨o, g⟩) hl hr)⟩
theorem yl_keys {G : Hp} {a : Addr} {o : Obj} {kvs : IVs} {xs : List V} (g : G a = some (.frz o (.dK ((keysI kvs).zip xs)))) (hl : xs.length = kvs.length) : Yl K G (Itk a o ((keysI kvs).zip xs)) (kvs.map fun q => PyData.int q.1) := fun M' G' H' e w => by
  have hg := w.gh a _ (e a _ g)
  have len : ((keysI kvs).zip xs).length = kvs.length := by
    rw [List.length_zip]
    unfold keysI
    rw [List.length_map]
    omega
  refine ⟨fun k d hd => ?_, hg, by rw [List.length_map, len]; exact Nat.le_refl _⟩
  have hk : k < kvs.length := by
    have := (List.getElem?_eq_some_iff.mp hd).1
    simpa using this
  refine ⟨⟨hg, by omega⟩, fun x H1 ⟨e1, ky, v, hkv, ex⟩ => ?_⟩
  subst e1
  subst ex
  have e2 : ky = Sum.inl kvs[k].1 := by
    have := (List.getElem?_zip_eq_some.mp hkv).1
    unfold keysI at this
    rw [List.getElem?_map, List.getElem?_eq_getElem hk] at this
    exact (Option.some.inj this).symm
  subst e2
  rw [List.getElem?_map, List.getElem?_eq_getElem hk] at hd
  obtain rfl := Option.some.inj hd
  exact ⟨G', Grow.refl _ _ _, w, .int _⟩
/-- its keys, one by one -/
theorem iw_keysF {i : Nat} {kvs : IVs} {PI : List PyData → MM → Prop} (h : es[i]? = some (.fdi kvs)) (p : PI (kvs.map fun q => PyData.int q.1) M) : Iw K (iKeys (tVar i)) es M PI := fun σ G H R en w k => by
  obtain ⟨v, hv, rv⟩ := en.at (e := .fdi kvs) h (fun z => nomatch z)
  obtain ⟨a, xs, o, rfl, g, hl, hr⟩ := rv
  exact ⟨_, hv, a, o, rfl, .inl ⟨_, w.gh a _ g, k _ M G H _ p rfl (Grow.refl _ _ _) w (yl_keys g hl)⟩⟩
/-! ### the size -/
end
def rLenDR : List V → Hp → VK → Prop := fun vs H Q => ∃ d l, vs = [.ref d] ∧ Rd H d (.dK l) ∧ Q (.int l.length) H
theorem call_lenDR {X : Cx} : CallR X (.builtin "len") rLenDR := by
  rintro pins st σ H vs us Q I rv ⟨d, l, rfl, rd, k⟩
  obtain ⟨u, rfl, ru⟩ := vals1 rv
  obtain rfl : u = Value.ref d := ru
  exact d_len I rd fun t s' I' => ⟨.int l.length, H, I', ⟨t, rfl⟩, k⟩
section
variable {K : PySem.W.Frag} {M : MM} {P : Ent → MM → Prop} {es : List Ent}
theorem c_lenDk {kvs : IVs} (p : P (.dat (.int kvs.length)) M) : Cb K rLenDR [.dat (dicI kvs)] M P := fun vs G H Q a w r => by
  cases a with
  | cons x y =>
    cases y
    obtain ⟨p0, xs, rfl, gp, hl, hr⟩ := rp_dicI x
    refine ⟨p0, _, rfl, rdUp w.gh gp, ?_⟩
    have len : ((keysI kvs).zip xs).length = kvs.length := by
      rw [List.length_zip]
      unfold keysI
      rw [List.length_map]
      omega
    rw [len]
    exact r.val w p (.int _)
/-! ### a dict that a comprehension makes and that changes then -/
def kvK (kvs : IVs) : KVs := kvs.map fun q => (.inl q.1, q.2)
theorem kvK_len (kvs : IVs) : (kvK kvs).length = kvs.length := List.length_map _
theorem kvK_paired {G : Hp} : ∀ {kvs : IVs} {vs : List V}, Rps K G vs (kvs.map (·.2)) → Paired (KR K G) ((keysI kvs).zip vs) (kvK kvs)
  | [], _, h => by cases h; exact .nil
  | p :: r, _, h => by
    cases h with
    | cons a b => exact .cons ⟨rfl, a⟩ (kvK_paired b)
theorem kvK_back {G : Hp} : ∀ {kvs : IVs} {l : List (Key × V)}, Paired (KR K G) l (kvK kvs) → ∃ vs, l = (keysI kvs).zip vs ∧ vs.length = kvs.length ∧ Rps K G vs (kvs.map (·.2))
  | [], _, h => by
    have h : Paired (KR K G) _ [] := h
    cases h
    exact ⟨[], rfl, rfl, .nil⟩
  | p :: r, _, h => by
    have h : Paired (KR K G) _ ((.inl p.1, p.2) :: kvK r) := h
    cases h with
    | @cons q _ l _ a b =>
      obtain ⟨vs, e1, e2, e3⟩ := kvK_back b
      refine ⟨q.2 :: vs, ?_, by simp [e2], .cons a.2 e3⟩
      rw [e1]
      have : q = (Sum.inl p.1, q.2) := Prod.ext a.1 rfl
      rw [this]
      rfl
theorem valD_kvK (kvs : IVs) (k : Int) : valD (kvK kvs) (.inl k) = getI kvs k := by
  induction kvs with
  | nil => rfl
  | cons p r ih =>
    show valD ((Sum.inl p.1, p.2) :: kvK r) _ = _
    rw [valD_cons, getI_cons, ih]
    by_cases c : p.1 = k
    · rw [if_pos c, if_pos (congrArg Sum.inl c)]
    · rw [if_neg c, if_neg fun z => c (Sum.inl.inj z)]
theorem sj_setD {D0 : List Addr} {W : DE} {te : TE} {i : Nat} (h : EvD K te es M fun kvs M1 => ∀ p, p ∉ D0 → W.nx (es.set i (.ref p)) (M1 ++ [(p, .dct (kvK kvs))])) : Sj K D0 (tAsg te (gName i)) es M W := fun G0 H0 σ H D ⟨G, f, en⟩ l =>
  h σ G H _ en f.wf fun kvs M1 C vs G1 H1 k d1 g1 w1 hC gC hc hl hr => by
    have f1 := f.step g1 w1 d1
    have m1 : C ∉ dom M1 := by rw [d1]; exact f.wf.none_m hC
    have w2 : Wf K G1 (M1 ++ [(C, .dct (kvK kvs))]) H1 := by
      refine ⟨w1.gh, fun x hx => ?_, fun x hx => ?_, ?_⟩
      · rcases List.mem_append.mp hx with q | q
        · exact w1.mh x q
        · obtain rfl := List.mem_singleton.mp q
          exact ⟨_, hc, kvK_paired hr⟩
      · rcases List.mem_append.mp hx with q | q
        · exact w1.mg x q
        · obtain rfl := List.mem_singleton.mp q
          exact gC
      · unfold dom at m1 ⊢
        rw [List.map_append]
        exact List.nodup_append.mpr ⟨w1.nd, by simp, fun a ha b hb z => by
          have hb : b = C := by simpa using hb
          subst hb
          subst z
          exact m1 ha⟩
    have h0 : H0 C = none := by
      cases z : H0 C with
      | none => rfl
      | some o => exact absurd hC (f.gr.al C (by rw [z]; exact fun x => nomatch x))
    exact l.nx _ _ _ _ (k C fun hb => f1.bs C hb h0) ⟨G1, ⟨f1.gr, w2, fun a ha => by
      unfold dom at ha
      rw [List.map_append] at ha
      rcases List.mem_append.mp ha with t | t
      · exact f1.own a t
      · have : a = C := by simpa using t
        subst this
        exact .inr h0, f1.bs⟩, (en.up g1.gg).put (e := .ref C) rfl i⟩
theorem En.subD {G G1 : Hp} {σ : L2.St} {p : Addr} {d : PyData} {es fs : List Ent} (s : Sub p d es fs) (x : Ex G G1) (hp : Rp K G1 (.ref p) d) (h : En K G σ es) : En K G1 σ fs := by
  induction s generalizing σ with
  | nil => cases h; exact .nil
  | hit _ ih =>
    cases h with
    | @cons o _ _ _ a b =>
      refine .cons ?_ (ih b)
      cases o with
      | none => exact a.elim
      | some v =>
        obtain rfl : v = .ref p := a
        exact hp
  | keep _ ih => cases h with | cons a b => exact .cons (a.up x) (ih b)
/-- .. and is fast from now on -/
theorem sj_fastD {D0 : List Addr} {W : DE} {ts : TS} {fs : List Ent} {p : Addr} {kvs : IVs} (Ma Mb : MM) (e : M = Ma ++ (p, .dct (kvK kvs)) :: Mb) (np : p ∉ D0) (s : Sub p (dicI kvs) es fs) (h : Sj K D0 ts fs (Ma ++ Mb) W) : Sj K D0 ts es M W := by
  intro G0 H0 σ H D ⟨G, f, en⟩ l
  subst e
  obtain ⟨vs, hx, hd⟩ := f.wf.mh (p, .dct (kvK kvs)) (by simp)
  have gp : G p = none := f.wf.mg (p, .dct (kvK kvs)) (by simp)
  have h0 : H0 p = none := (f.own p (by simp [dom])).resolve_left np
  have nd := f.wf.nd
  obtain ⟨xs, e1, e2, e3⟩ := kvK_back hd
  have sub : (Ma ++ Mb).Sublist (Ma ++ (p, MO.dct (kvK kvs)) :: Mb) := List.Sublist.append_left (List.sublist_cons_self _ _) _
  have out : ∀ x ∈ Ma ++ Mb, x.1 ≠ p := by
    intro x hx c
    unfold dom at nd
    rw [List.map_append, List.map_cons] at nd
    have ap := List.nodup_append.mp nd
    rcases List.mem_append.mp hx with q | q
    · exact ap.2.2 _ (List.mem_map.mpr ⟨x, q, rfl⟩) p (by simp) c
    · exact (List.nodup_cons.mp ap.2.1).1 (c ▸ List.mem_map.mpr ⟨x, q, rfl⟩)
  have w2 : Wf K (upd G p (.dK vs)) (Ma ++ Mb) H := by
    refine ⟨fun a u ea => ?_, fun x hx => ?_, fun x hx => ?_, nd.sublist (sub.map _)⟩
    · by_cases c : a = p
      · subst c; rw [upd_same] at ea; rw [hx]; exact ea
      · rw [upd_ne c] at ea; exact f.wf.gh a u ea
    · exact moUp (Ex.add gp) rfl (f.wf.mh x (sub.subset hx))
    · rw [upd_ne (out x hx)]; exact f.wf.mg x (sub.subset hx)
  refine h G0 H0 σ H D ⟨upd G p (.dK vs), ⟨⟨f.gr.gg.tr (Ex.add gp), fun a n => ?_, f.gr.kp, f.gr.al⟩, w2, fun a ha => f.own a ((sub.map _).subset ha), f.bs⟩, ?_⟩ l
  · rw [upd_ne (by rintro rfl; exact n h0)]
    exact f.gr.fr a n
  · subst e1
    exact en.subD s (Ex.add gp) (dicI_rp (.inl upd_same) e2 (dpsUp (Ex.add gp) _ _ e3))
end
section
variable {K : PySem.W.Frag} {G0 G G1 H0 H H1 : Hp} {D0 : List Addr} {M M1 : MM} {es : List Ent} {W : DE}
end
section
variable {K : PySem.W.Frag} {M : MM} {P : Ent → MM → Prop} {es : List Ent}
/-! ### its text -/
theorem c_showI {d : PyData} (h1 : d.showable = true) (h2 : d.depth ≤ 60) (h3 : d.shown.length ≤ sizeLine) (p : P (.dat (.str d.shown)) M) : Cb K (rShowE K) [.dat d] M P := fun vs G H Q a w r => by
  cases a with
  | cons x y =>
    cases y
    exact ⟨_, d, G, rfl, w.gh, x, h1, h2, h3, r.val w p (.str _)⟩
end
end Yw

set_option Elab.async false
set_option linter.all false
set_option maxRecDepth 100000
set_option maxHeartbeats 4000000
/-! Own layer: a dict comprehension given to a name. -/
namespace Yw
open PySem PySem.Spec PyProof.Rows L2
/-! ### name = {..: .. for ..} -/
theorem swapD {a b : Expr} {cs : List Comprehension} {sc : Scope} {p1 p2 : Pos} {nm : Str} {row : Nat} {ev : Env} (h1 : ev.scope.kind = .function) (h2 : ev.scope.names.lookup nm = some .local) (h3 : (p2.line == p1.line) = true)
    (h4 : (sc.names.any fun (n, k) => n == nm && (k == .local || k == .cell)) = false) : swapsWith (.DictComp a b cs sc p1) (some (.Name nm p2)) row ev = pure true := by
  have q1 : ev.blockKind = .function := by unfold Env.blockKind; rw [h1]; rfl
  have q2 : ev.kindOf nm = some .local := h2
  unfold swapsWith
  simp only [q1, q2, h4, Expr.pos, h3]
  rfl
theorem ps_setDc {X : Cx} {i : Nat} {nm : Str} {p2 p1 sp : Pos} {a b tg it : Expr} {ifs : List Expr} {sc : Scope} {own : List (Str × Nat)} {wi : TI} {g : TG} {tt : TT} {tk tv : TE} (hc : X.calm = true) (nd : X.N.Nodup) (at_ : X.N[i]? = some nm) (lo : X.env.scope.names.lookup nm = some .local)
    (sw : swapsWith (.DictComp a b [⟨tg, it, ifs, 0⟩] sc p1) (some (.Name nm p2)) sp.line X.env = pure true) (hi : PI X tg it wi) (ok : BlkOk X.N X.env.scope sc own)
    (kg : ∀ (s : Shared) (H : Hp) (C : Addr) (cl : List (Str × Addr)) (fp : List Addr), PG (X.blk s H sc (compEnvC sc cl C X.env) fp) tg g) (kt : ∀ (s : Shared) (H : Hp) (C : Addr) (cl : List (Str × Addr)) (fp : List Addr), PTs (X.blk s H sc (compEnvC sc cl C X.env) fp) ifs tt)
    (kk : ∀ (s : Shared) (H : Hp) (C : Addr) (cl : List (Str × Addr)) (fp : List Addr), PE (X.blk s H sc (compEnvC sc cl C X.env) fp) a tk) (kv : ∀ (s : Shared) (H : Hp) (C : Addr) (cl : List (Str × Addr)) (fp : List Addr), PE (X.blk s H sc (compEnvC sc cl C X.env) fp) b tv)
    (fs : ∀ x, foldedSetIterable it X.env x = pure x := by intro _; rfl) : PS X (.Assign [.Name nm p2] (.DictComp a b [⟨tg, it, ifs, 0⟩] sc p1) sp) (tAsg (tDc wi g tt tk tv (own.map (·.2))) (gName i)) := by
  refine ⟨fun pins s0 σ0 H0 D0 I0 hw => ?_⟩
  have hw : tDc wi g tt tk tv (own.map (·.2)) σ0 H0 (fun x H1 => gName i x σ0 H1 D0.nx) := hw
  rw [exec_Assign_Name_used _ _ _ _ sw]
  refine wpAny_bind (wpAny_standAt (wpAny_bind ?_))
  show wpAny _ X.A (do let _ ← comprehension (.DictComp a b [⟨tg, it, ifs, 0⟩] sc p1) sc X.env (firstIterPos [⟨tg, it, ifs, 0⟩] p1) newDict false (eval it X.env) (some (assign (.Name nm p2) X.env))) _ _ s0
  refine wpAny_bind (thn (dc_core (Qf := fun _ s1 => SP X pins D0 .next s1) hc nd I0 hi ok kg kt kk kv fs hw fun L C s1 m H1 I1 q hn f => ?_) fun _ s1 hq => wpAny_pure (wpAny_pure hq))
  show wpAny _ _ (assign (.Name nm p2) X.env (.ref L)) _ _ _
  refine wpAny_assign_Name (store_ok2 (v := V.ref L) I1 nd at_ (.inl lo) rfl (fun s2 I2 ⟨c, sb, hor⟩ => ?_) (.inr lo))
  have ne : C ≠ c := by
    rcases hor with z | z
    · rw [z]
      exact f.2.1
    · exact fun e => f.2.2.2.2.1 nm c z e.symm
  exact ⟨m, hn.sameBut sb ne, fun h3 sb3 => ⟨_, H1, I2.turned (t' := s2.toks) (fun d o hd e => (sb3.2 d hd).trans e) f.1 f.2.1 f.2.2.2.1 f.2.2.2.2.1 f.2.2.2.2.2, q⟩⟩
end Yw

set_option Elab.async false
set_option linter.all false
set_option maxRecDepth 100000
set_option maxHeartbeats 4000000
/-! Own layer: a dict of a call that changes then; its keys as a list; is it empty. -/
namespace Yw
open PySem PySem.Spec PyProof.Rows L2
/-! ### unlike the empty one -/
def rNeDE : R2 := fun x y H Q => ∃ a b l, x = .ref a ∧ y = .ref b ∧ Rd H a (.dK l) ∧ Rd H b (.dK []) ∧ Q (.bl (decide (l ≠ []))) H
theorem op_neDE {X : Cx} (hu : X.A.units < cLine) : OpR X (compareOp .NotEq) rNeDE := by
  intro pins s σ H x y v u Q I rx ry h
  obtain ⟨a, b, l, rfl, rfl, ea, eb, q⟩ := h
  obtain rfl : v = Value.ref a := rx
  obtain rfl : u = Value.ref b := ry
  obtain ⟨_, ya, va, ra, da⟩ := (show ObjOk X.prog X.w H s.heap a (.dK l) from ea.ok I.hok)
  obtain ⟨_, yb, vb, rb, db⟩ := (show ObjOk X.prog X.w H s.heap b (.dK []) from eb.ok I.hok)
  have hb : vb = [] := List.length_eq_zero_iff.mp rb.length.symm
  subst hb
  refine PySem.W.keq_ne (knd := mixKind X.prog X.w) (r := true) ya yb da db hu (fun e => ?_) (fin_bl I q ?_)
  · have : va = [] := List.length_eq_zero_iff.mp e
    subst this
    exact .nil
  · rw [show va.length = l.length from ra.length.symm]
    cases l <;> simp
section
variable {K : PySem.W.Frag} {M : MM} {P : Ent → MM → Prop} {es : List Ent}
theorem ev_dnewI (p : P (.dat (dicI [])) M) : Ev K tDNewK es M P := fun σ G H Q en w q => q.new w p fun a c => dicI_rp (kvs := []) (xs := []) (.inl upd_same) rfl .nil
theorem o_neDE {a : Addr} {kvs : IVs} (hm : (a, MO.dct (kvK kvs)) ∈ M) (p : P (.dat (.bool (decide (kvs ≠ [])))) M) : Op2 K rNeDE (.ref a) (.dat (dicI [])) M P := fun x y G H Q u v w r => by
  obtain rfl : x = .ref a := u
  obtain ⟨l, hx, hr⟩ := w.mh _ hm
  obtain ⟨b, xs, rfl, gp, hl, _⟩ := rp_dicI v
  obtain ⟨vs, e1, e2, e3⟩ := kvK_back hr
  have hn : xs = [] := List.length_eq_zero_iff.mp hl
  subst hn
  refine ⟨a, b, l, rfl, rfl, .inl hx, rdUp w.gh gp, ?_⟩
  have e : decide (l ≠ []) = decide (kvs ≠ []) := by
    rw [e1]
    cases kvs with
    | nil => rfl
    | cons c r =>
      cases vs with
      | nil => cases e2
      | cons d t => rfl
  rw [e]
  exact r.val w p (.bl _)
/-- list(known) of a dict that changes -/
theorem c_listDm {a : Addr} {kvs : IVs} (hm : (a, MO.dct (kvK kvs)) ∈ M) (p : P (.dat (.list (kvs.map fun q => PyData.int q.1))) M) : Cb K rListDR [.ref a] M P := fun vs G H Q u w r => by
  cases u with
  | cons x y =>
    cases y
    obtain rfl := x
    obtain ⟨l, hx, hr⟩ := w.mh _ hm
    obtain ⟨vs, e1, e2, e3⟩ := kvK_back hr
    refine ⟨a, l, rfl, .inl hx, fun q hq => ?_⟩
    have e : (l.map fun kv => kV kv.1) = (kvs.map fun q => q.1).map V.int := by
      have h1 : (l.map fun kv => kV kv.1) = (l.map (·.1)).map kV := by rw [List.map_map]; rfl
      rw [h1, e1, keys_zip e2, List.map_map, List.map_map, List.map_map]
      rfl
    rw [e]
    have e3 : (kvs.map fun q => PyData.int q.1) = (kvs.map fun q => q.1).map PyData.int := by rw [List.map_map]; rfl
    rw [e3] at p
    exact r.new w p (fun b c => .lst upd_same (ints_dps _)) q hq
/-! ### a dict of a call, that may change -/
def rDictOf (K : PySem.W.Frag) : List V → Hp → VK → Prop := fun xs H Q => ∃ (a : Addr) (ps : List Addr) (kvs : List (Key × V)), xs = [.ref a] ∧ SqL K H a (ps.map V.ref) ∧ Paired (fun p kv => SqT K H p [kV kv.1, kv.2]) ps kvs ∧ ∀ p, H p = none → Q (.ref p) (upd H p (.dK (mergeK [] kvs)))
theorem call_dictOf {X : Cx} (calm : X.calm = true) : CallR X (.type "dict") (rDictOf X.K) := call_dictP calm
theorem evD_dict {PD : IVs → MM → Prop} {ta : TA} (h : EvA K ta es M fun as M1 => ∃ kvs : IVs, as = [.dat (.list (kvs.map fun p => PyData.tuple [.int p.1, p.2]))] ∧ (kvs.map (·.1)).Nodup ∧ PD kvs M1) : EvD K (tCB (rDictOf K) ta) es M PD := fun σ G H Q en w q =>
  h σ G H _ en w fun as M1 vs G1 H1 p d g w1 x => by
    obtain ⟨kvs, rfl, nd, pd⟩ := p
    cases x with
    | cons x y =>
      cases y
      cases x with
      | @lst b xs ds hb hx =>
        obtain ⟨ps, us, e1, e2, e3, e4⟩ := pairs_parts w1.gh hx
        subst e1
        refine ⟨b, ps, _, rfl, SqL.of (w1.gh _ _ hb), e2, fun C hC => ?_⟩
        have hC1 : G1 C = none := w1.none_g hC
        have h0 : H C = none := by
          cases z : H C with
          | none => rfl
          | some o => exact absurd hC (g.al C (by rw [z]; exact fun x => nomatch x))
        have em : mergeK [] ((keysI kvs).zip us) = (keysI kvs).zip us := by rw [mergeK_nodup _ _ (keys_nodup e3 nd), List.nil_append]
        rw [em]
        have z := w1.newD (vs := (keysI kvs).zip us) (kvs := kvK kvs) hC (kvK_paired e4)
        exact q kvs M1 C us G1 _ pd d (g.trans (d ▸ z.2)) (z.1.part (List.sublist_append_left _ _)) h0 hC1 upd_same e3 e4
theorem kvK_put {kvs : IVs} {k : Int} {d : PyData} (h : (getI kvs k).isSome = true) : putD (kvK kvs) (.inl k) d = kvK (kvs.map fun p => if p.1 = k then (p.1, d) else p) := by
  unfold putD
  rw [valD_any, valD_kvK, h, if_pos rfl]
  unfold kvK
  rw [List.map_map, List.map_map]
  refine List.map_congr_left fun p _ => ?_
  show (if (Sum.inl p.1 : Key) = Sum.inl k then _ else _) = _
  by_cases c : p.1 = k
  · rw [if_pos (congrArg Sum.inl c)]
    show _ = _
    simp only [Function.comp, if_pos c]
  · rw [if_neg fun z => c (Sum.inl.inj z)]
    simp only [Function.comp, if_neg c]
end
end Yw

set_option Elab.async false
set_option linter.all false
set_option maxRecDepth 100000
set_option maxHeartbeats 1000000
set_option exponentiation.threshold 20000
namespace K53
open PySem PySem.Spec PyProof.Rows L2 Yw
def topS (i : Nat) : Stmt := PySem.Challenge.pw_flutterheld_k53_groups_judged.main.body.getD i (.Pass ⟨0, 0, 0, 0⟩)
abbrev s_many_bodies : Stmt := topS 1
abbrev N_many_bodies : List Str := ["bounds", "data"]
theorem sc_many_bodies : FnScope N_many_bodies ["bounds", "data"] (defScope s_many_bodies) := ⟨rfl, rfl, rfl, by decide +kernel, rfl, by decide +kernel, by decide +kernel⟩
abbrev s_counts_to : Stmt := topS 2
abbrev N_counts_to : List Str := ["bounds", "data", "lo", "most", "counts", "behind", "cells"]
theorem sc_counts_to : FnScope N_counts_to ["bounds", "data"] (defScope s_counts_to) := ⟨rfl, rfl, rfl, by decide +kernel, rfl, by decide +kernel, by decide +kernel⟩
abbrev s_bits_of : Stmt := topS 3
abbrev N_bits_of : List Str := ["bounds", "data"]
theorem sc_bits_of : FnScope N_bits_of ["bounds", "data"] (defScope s_bits_of) := ⟨rfl, rfl, rfl, by decide +kernel, rfl, by decide +kernel, by decide +kernel⟩
abbrev s_bits_in : Stmt := topS 4
abbrev N_bits_in : List Str := ["many"]
theorem sc_bits_in : FnScope N_bits_in ["many"] (defScope s_bits_in) := ⟨rfl, rfl, rfl, by decide +kernel, rfl, by decide +kernel, by decide +kernel⟩
abbrev s_is_integer : Stmt := topS 6
abbrev N_is_integer : List Str := ["thing"]
theorem sc_is_integer : FnScope N_is_integer ["thing"] (defScope s_is_integer) := ⟨rfl, rfl, rfl, by decide +kernel, rfl, by decide +kernel, by decide +kernel⟩
abbrev s_is_tuple_of : Stmt := topS 7
abbrev N_is_tuple_of : List Str := ["many", "thing"]
theorem sc_is_tuple_of : FnScope N_is_tuple_of ["many", "thing"] (defScope s_is_tuple_of) := ⟨rfl, rfl, rfl, by decide +kernel, rfl, by decide +kernel, by decide +kernel⟩
abbrev s_bases_of : Stmt := topS 13
abbrev N_bases_of : List Str := ["form", "width"]
theorem sc_bases_of : FnScope N_bases_of ["form", "width"] (defScope s_bases_of) := ⟨rfl, rfl, rfl, by decide +kernel, rfl, by decide +kernel, by decide +kernel⟩
abbrev s_many_numbers : Stmt := topS 14
abbrev N_many_numbers : List Str := ["form", "width", "many", "base"]
theorem sc_many_numbers : FnScope N_many_numbers ["form", "width"] (defScope s_many_numbers) := ⟨rfl, rfl, rfl, by decide +kernel, rfl, by decide +kernel, by decide +kernel⟩
abbrev s_width_of : Stmt := topS 15
abbrev N_width_of : List Str := ["form", "bits", "width", "many"]
theorem sc_width_of : FnScope N_width_of ["form"] (defScope s_width_of) := ⟨rfl, rfl, rfl, by decide +kernel, rfl, by decide +kernel, by decide +kernel⟩
abbrev s_is_digit : Stmt := topS 16
abbrev N_is_digit : List Str := ["base", "thing"]
theorem sc_is_digit : FnScope N_is_digit ["base", "thing"] (defScope s_is_digit) := ⟨rfl, rfl, rfl, by decide +kernel, rfl, by decide +kernel, by decide +kernel⟩
abbrev s_field_less : Stmt := topS 19
abbrev N_field_less : List Str := ["one", "other"]
theorem sc_field_less : FnScope N_field_less ["one", "other"] (defScope s_field_less) := ⟨rfl, rfl, rfl, by decide +kernel, rfl, by decide +kernel, by decide +kernel⟩
abbrev s_field_product : Stmt := topS 20
abbrev N_field_product : List Str := ["one", "other"]
theorem sc_field_product : FnScope N_field_product ["one", "other"] (defScope s_field_product) := ⟨rfl, rfl, rfl, by decide +kernel, rfl, by decide +kernel, by decide +kernel⟩
abbrev s_field_inverse : Stmt := topS 21
abbrev N_field_inverse : List Str := ["one"]
theorem sc_field_inverse : FnScope N_field_inverse ["one"] (defScope s_field_inverse) := ⟨rfl, rfl, rfl, by decide +kernel, rfl, by decide +kernel, by decide +kernel⟩
abbrev s_weights_at : Stmt := topS 22
abbrev N_weights_at : List Str := ["ats", "at", "weights", "one", "above", "below", "other"]
theorem sc_weights_at : FnScope N_weights_at ["ats", "at"] (defScope s_weights_at) := ⟨rfl, rfl, rfl, by decide +kernel, rfl, by decide +kernel, by decide +kernel⟩
abbrev s_weighed : Stmt := topS 23
abbrev N_weighed : List Str := ["weights", "values", "weight", "value"]
theorem sc_weighed : FnScope N_weighed ["weights", "values"] (defScope s_weighed) := ⟨rfl, rfl, rfl, by decide +kernel, rfl, by decide +kernel, by decide +kernel⟩
abbrev s_is_word : Stmt := topS 25
abbrev N_is_word : List Str := ["width", "thing", "part"]
theorem sc_is_word : FnScope N_is_word ["width", "thing"] (defScope s_is_word) := ⟨rfl, rfl, rfl, by decide +kernel, rfl, by decide +kernel, by decide +kernel⟩
abbrev s_words_from : Stmt := topS 26
abbrev N_words_from : List Str := ["known", "places", "many", "words", "found", "at", "weights", "place", "symbols"]
theorem sc_words_from : FnScope N_words_from ["known", "places", "many"] (defScope s_words_from) := ⟨rfl, rfl, rfl, by decide +kernel, rfl, by decide +kernel, by decide +kernel⟩
abbrev s_spread : Stmt := topS 27
abbrev N_spread : List Str := ["form", "words", "known", "place", "word"]
theorem sc_spread : FnScope N_spread ["form", "words"] (defScope s_spread) := ⟨rfl, rfl, rfl, by decide +kernel, rfl, by decide +kernel, by decide +kernel⟩
abbrev s_is_group : Stmt := topS 28
abbrev N_is_group : List Str := ["form", "thing", "many", "spare", "width", "part"]
theorem sc_is_group : FnScope N_is_group ["form", "thing"] (defScope s_is_group) := ⟨rfl, rfl, rfl, by decide +kernel, rfl, by decide +kernel, by decide +kernel⟩
abbrev s_restored : Stmt := topS 29
abbrev N_restored : List Str := ["form", "known", "many"]
theorem sc_restored : FnScope N_restored ["form", "known"] (defScope s_restored) := ⟨rfl, rfl, rfl, by decide +kernel, rfl, by decide +kernel, by decide +kernel⟩
abbrev s_agree : Stmt := topS 30
abbrev N_agree : List Str := ["form", "known", "many", "spare", "group", "place"]
theorem sc_agree : FnScope N_agree ["form", "known"] (defScope s_agree) := ⟨rfl, rfl, rfl, by decide +kernel, rfl, by decide +kernel, by decide +kernel⟩
abbrev s_l_bag : Stmt := topS 32
abbrev N_l_bag : List Str := ["script", "cell"]
theorem sc_l_bag : FnScope N_l_bag ["script"] (defScope s_l_bag) := ⟨rfl, rfl, rfl, by decide +kernel, rfl, by decide +kernel, by decide +kernel⟩
abbrev s_l_take : Stmt := topS 33
abbrev N_l_take : List Str := ["bag", "many", "cell", "stirred", "value", "begin", "second"]
theorem sc_l_take : FnScope N_l_take ["bag", "many"] (defScope s_l_take) := ⟨rfl, rfl, rfl, by decide +kernel, rfl, by decide +kernel, by decide +kernel⟩
abbrev s_l_some : Stmt := topS 34
abbrev N_l_some : List Str := ["bag", "things"]
theorem sc_l_some : FnScope N_l_some ["bag", "things"] (defScope s_l_some) := ⟨rfl, rfl, rfl, by decide +kernel, rfl, by decide +kernel, by decide +kernel⟩
abbrev s_l_mixed : Stmt := topS 35
abbrev N_l_mixed : List Str := ["bag", "things", "found", "thing"]
theorem sc_l_mixed : FnScope N_l_mixed ["bag", "things"] (defScope s_l_mixed) := ⟨rfl, rfl, rfl, by decide +kernel, rfl, by decide +kernel, by decide +kernel⟩
abbrev s_l_alike : Stmt := topS 36
abbrev N_l_alike : List Str := ["found", "due"]
theorem sc_l_alike : FnScope N_l_alike ["found", "due"] (defScope s_l_alike) := ⟨rfl, rfl, rfl, by decide +kernel, rfl, by decide +kernel, by decide +kernel⟩
abbrev s_l_is_int : Stmt := topS 37
abbrev N_l_is_int : List Str := ["thing"]
theorem sc_l_is_int : FnScope N_l_is_int ["thing"] (defScope s_l_is_int) := ⟨rfl, rfl, rfl, by decide +kernel, rfl, by decide +kernel, by decide +kernel⟩
abbrev s_l_common : Stmt := topS 38
abbrev N_l_common : List Str := ["one", "other"]
theorem sc_l_common : FnScope N_l_common ["one", "other"] (defScope s_l_common) := ⟨rfl, rfl, rfl, by decide +kernel, rfl, by decide +kernel, by decide +kernel⟩
abbrev s_l_fraction : Stmt := topS 39
abbrev N_l_fraction : List Str := ["n", "d", "shared"]
theorem sc_l_fraction : FnScope N_l_fraction ["n", "d"] (defScope s_l_fraction) := ⟨rfl, rfl, rfl, by decide +kernel, rfl, by decide +kernel, by decide +kernel⟩
abbrev s_l_added : Stmt := topS 40
abbrev N_l_added : List Str := ["one", "other"]
theorem sc_l_added : FnScope N_l_added ["one", "other"] (defScope s_l_added) := ⟨rfl, rfl, rfl, by decide +kernel, rfl, by decide +kernel, by decide +kernel⟩
abbrev s_l_times : Stmt := topS 41
abbrev N_l_times : List Str := ["one", "other"]
theorem sc_l_times : FnScope N_l_times ["one", "other"] (defScope s_l_times) := ⟨rfl, rfl, rfl, by decide +kernel, rfl, by decide +kernel, by decide +kernel⟩
abbrev s_l_is_less : Stmt := topS 42
abbrev N_l_is_less : List Str := ["one", "other"]
theorem sc_l_is_less : FnScope N_l_is_less ["one", "other"] (defScope s_l_is_less) := ⟨rfl, rfl, rfl, by decide +kernel, rfl, by decide +kernel, by decide +kernel⟩
abbrev s_l_phi : Stmt := topS 43
abbrev N_l_phi : List Str := ["bounds", "t", "cell", "drift", "shift", "lo", "most", "lead"]
theorem sc_l_phi : FnScope N_l_phi ["bounds", "t"] (defScope s_l_phi) := ⟨rfl, rfl, rfl, by decide +kernel, rfl, by decide +kernel, by decide +kernel⟩
abbrev s_l_least : Stmt := topS 44
abbrev N_l_least : List Str := ["some", "found", "one"]
theorem sc_l_least : FnScope N_l_least ["some"] (defScope s_l_least) := ⟨rfl, rfl, rfl, by decide +kernel, rfl, by decide +kernel, by decide +kernel⟩
abbrev s_l_pull : Stmt := topS 45
abbrev N_l_pull : List Str := ["bounds", "cell", "drift", "shift", "lo", "most", "lead", "best", "line", "met", "at", "least", "ends", "found", "run", "far", "less", "k"]
theorem sc_l_pull : FnScope N_l_pull ["bounds"] (defScope s_l_pull) := ⟨rfl, rfl, rfl, by decide +kernel, rfl, by decide +kernel, by decide +kernel⟩
abbrev s_l_needed : Stmt := topS 46
abbrev N_l_needed : List Str := ["bounds", "run", "pulled", "drifted"]
theorem sc_l_needed : FnScope N_l_needed ["bounds", "run"] (defScope s_l_needed) := ⟨rfl, rfl, rfl, by decide +kernel, rfl, by decide +kernel, by decide +kernel⟩
abbrev s_l_size : Stmt := topS 47
abbrev N_l_size : List Str := ["bag"]
theorem sc_l_size : FnScope N_l_size ["bag"] (defScope s_l_size) := ⟨rfl, rfl, rfl, by decide +kernel, rfl, by decide +kernel, by decide +kernel⟩
abbrev s_l_counts : Stmt := topS 48
abbrev N_l_counts : List Str := ["bounds", "data", "found", "cells", "run"]
theorem sc_l_counts : FnScope N_l_counts ["bounds", "data"] (defScope s_l_counts) := ⟨rfl, rfl, rfl, by decide +kernel, rfl, by decide +kernel, by decide +kernel⟩
abbrev s_l_least_watchful : Stmt := topS 49
abbrev N_l_least_watchful : List Str := ["drift", "shift", "lo", "most", "lead", "gap", "trial", "need", "wide", "first"]
theorem sc_l_least_watchful : FnScope N_l_least_watchful ["drift", "shift", "lo", "most", "lead"] (defScope s_l_least_watchful) := ⟨rfl, rfl, rfl, by decide +kernel, rfl, by decide +kernel, by decide +kernel⟩
abbrev s_l_width : Stmt := topS 50
abbrev N_l_width : List Str := ["form", "many", "width", "numbers", "size"]
theorem sc_l_width : FnScope N_l_width ["form"] (defScope s_l_width) := ⟨rfl, rfl, rfl, by decide +kernel, rfl, by decide +kernel, by decide +kernel⟩
abbrev s_l_roomy : Stmt := topS 51
abbrev N_l_roomy : List Str := ["bag", "lo", "most", "drift", "shift", "lead", "cell", "many", "spare", "data", "form"]
theorem sc_l_roomy : FnScope N_l_roomy ["bag"] (defScope s_l_roomy) := ⟨rfl, rfl, rfl, by decide +kernel, rfl, by decide +kernel, by decide +kernel⟩
abbrev s_l_value : Stmt := topS 52
abbrev N_l_value : List Str := ["polynomial", "at", "found", "one"]
theorem sc_l_value : FnScope N_l_value ["polynomial", "at"] (defScope s_l_value) := ⟨rfl, rfl, rfl, by decide +kernel, rfl, by decide +kernel, by decide +kernel⟩
abbrev s_l_group : Stmt := topS 53
abbrev N_l_group : List Str := ["bag", "form", "rows", "index", "polynomial", "turn", "place", "row"]
theorem sc_l_group : FnScope N_l_group ["bag", "form"] (defScope s_l_group) := ⟨rfl, rfl, rfl, by decide +kernel, rfl, by decide +kernel, by decide +kernel⟩
abbrev s_l_at : Stmt := topS 54
abbrev N_l_at : List Str := ["points", "at", "found", "place", "value", "above", "below", "other", "its", "share", "one"]
theorem sc_l_at : FnScope N_l_at ["points", "at"] (defScope s_l_at) := ⟨rfl, rfl, rfl, by decide +kernel, rfl, by decide +kernel, by decide +kernel⟩
abbrev s_l_near_group : Stmt := topS 55
abbrev N_l_near_group : List Str := ["bag", "group", "at", "way", "word", "others"]
theorem sc_l_near_group : FnScope N_l_near_group ["bag", "group"] (defScope s_l_near_group) := ⟨rfl, rfl, rfl, by decide +kernel, rfl, by decide +kernel, by decide +kernel⟩
abbrev s_l_is_group : Stmt := topS 56
abbrev N_l_is_group : List Str := ["form", "thing", "word", "one", "place"]
theorem sc_l_is_group : FnScope N_l_is_group ["form", "thing"] (defScope s_l_is_group) := ⟨rfl, rfl, rfl, by decide +kernel, rfl, by decide +kernel, by decide +kernel⟩
abbrev s_l_do_agree : Stmt := topS 57
abbrev N_l_do_agree : List Str := ["form", "known", "places", "base", "index", "points", "place"]
theorem sc_l_do_agree : FnScope N_l_do_agree ["form", "known"] (defScope s_l_do_agree) := ⟨rfl, rfl, rfl, by decide +kernel, rfl, by decide +kernel, by decide +kernel⟩
abbrev s_l_due_restored : Stmt := topS 58
abbrev N_l_due_restored : List Str := ["form", "known", "base", "found", "place", "rows", "index", "its", "points"]
theorem sc_l_due_restored : FnScope N_l_due_restored ["form", "known"] (defScope s_l_due_restored) := ⟨rfl, rfl, rfl, by decide +kernel, rfl, by decide +kernel, by decide +kernel⟩
abbrev s_law : Stmt := topS 59
abbrev N_law : List Str := ["script", "bag", "turn", "form", "group", "all_of", "k", "near", "known", "place", "shown", "due"]
theorem sc_law : FnScope N_law ["script"] (defScope s_law) := ⟨rfl, rfl, rfl, by decide +kernel, rfl, by decide +kernel, by decide +kernel⟩

structure Bt (mg : Str → Option Value) : Prop where
  b_abs : mg "abs" = none
  b_all : mg "all" = none
  b_bool : mg "bool" = none
  b_dict : mg "dict" = none
  b_enumerate : mg "enumerate" = none
  b_int : mg "int" = none
  b_isinstance : mg "isinstance" = none
  b_len : mg "len" = none
  b_list : mg "list" = none
  b_max : mg "max" = none
  b_min : mg "min" = none
  b_pow : mg "pow" = none
  b_range : mg "range" = none
  b_repr : mg "repr" = none
  b_sorted : mg "sorted" = none
  b_sum : mg "sum" = none
  b_tuple : mg "tuple" = none
  b_zip : mg "zip" = none
  g_FIELD : ∃ t, mg "FIELD" = some (.int 97 t)
  g_EPOCHS : ∃ t, mg "EPOCHS" = some (.int 64 t)
  g_DEEDS : ∃ t, mg "DEEDS" = some (.int 256 t)
  g_PARTS : ∃ t, mg "PARTS" = some (.int 64 t)
  g_SYMBOLS : ∃ t, mg "SYMBOLS" = some (.int 97 t)

end K53

set_option Elab.async false
set_option linter.all false
set_option maxRecDepth 100000
set_option maxHeartbeats 1000000
set_option exponentiation.threshold 20000
namespace K53
open PySem PySem.Spec PyProof.Rows L2 Yw
local macro_rules | `(tactic| walk_at "ye") => `(tactic| first
  | ((with_reducible show Ev _ (tVar _) _ _ _); first | refine ev_dat rfl ?_ | refine ev_ref rfl ?_ | refine ev_var rfl (fun z => nomatch z) ?_)
  | ((with_reducible show Ev _ (tC _) _ _ _); first | with_reducible refine ev_int ?_ | with_reducible refine ev_bl ?_ | with_reducible refine ev_non ?_ | with_reducible refine ev_str ?_ | with_reducible refine ev_ty ?_)
  | with_reducible refine ev_op ?_
  | with_reducible refine ev_un ?_
  | with_reducible refine ev_go ?_
  | with_reducible refine ev_cb ?_
  | with_reducible refine ev_tupD ?_
  | with_reducible refine ev_lstD ?_
  | with_reducible refine ev_chain ?_
  | with_reducible refine ev_if ?_
  | with_reducible refine ev_andV ?_
  | with_reducible refine ev_orV ?_
  | with_reducible refine ev_notV ?_
  | with_reducible refine ev_sl ?_
  | with_reducible refine ev_bm ?_)
local macro_rules | `(tactic| walk_at "ya") => `(tactic| first
  | with_reducible refine ea_cons ?_
  | with_reducible refine ea_nil ?_
  | with_reducible refine eo_none ?_
  | with_reducible refine eo_some ?_
  | with_reducible refine et_test ?_
  | with_reducible refine et_B ?_
  | with_reducible refine et_and ?_
  | with_reducible refine et_or ?_
  | with_reducible refine et_not ?_
  | with_reducible refine et_yes ?_
  | with_reducible refine tg_name ?_
  | with_reducible refine tgs_nil ?_
  | with_reducible refine tgs_cons ?_
  | ((with_reducible show Tg _ (gTup _ _ _) _ _ _ _); refine tg_tup rfl ?_)
  | with_reducible refine tg_sub ?_)
local macro_rules | `(tactic| walk_at "ys") => `(tactic| first
  | with_reducible refine sj_seq ?_
  | with_reducible refine sj_next ?_
  | with_reducible refine sj_newD ?_
  | with_reducible refine sj_set ?_
  | with_reducible refine sj_par ?_
  | with_reducible refine sj_ret ?_
  | with_reducible refine sj_drop ?_
  | with_reducible refine sj_if ?_
  | with_reducible refine sj_asg ?_
  | with_reducible refine sj_augS ?_
  | with_reducible refine iw_seq ?_
  | with_reducible refine iw_zip ?_
  | with_reducible refine iw_list ?_
  | with_reducible refine iw_tup ?_
  | with_reducible refine iw_r1 ?_
  | with_reducible refine iw_r2 ?_
  | with_reducible refine iw_enumT ?_)
local macro_rules | `(tactic| walk_at "yo") => `(tactic| first
  | with_reducible refine o_int ?_
  | with_reducible refine o_bool ?_
  | with_reducible refine o_mul (by first | exact mulR ⟨by decide, by decide⟩ | exact mulL ⟨by decide, by decide⟩) ?_
  | with_reducible refine o_mul ?_ ?_
  | with_reducible refine o_mod (by decide) ?_
  | with_reducible refine o_mod ?_ ?_
  | with_reducible refine o_div (by decide) (by decide +kernel) ?_
  | with_reducible refine o_cat ?_ ?_
  | with_reducible refine o_catT ?_ ?_
  | ((with_reducible show Op2 _ (rIxL _) (Ent.ref _) _ _ _); refine o_ixM (List.Mem.head _) rfl ?_)
  | with_reducible refine o_eqI ?_
  | with_reducible refine o_neI ?_
  | with_reducible refine o_eqS ?_
  | with_reducible refine o_neS ?_
  | with_reducible refine o_neg ?_
  | ((with_reducible show Op2 _ (rIxT _) _ _ _ _); refine o_ixT rfl ?_)
  | ((with_reducible show Op2 _ (rIxL _) (Ent.dat _) _ _ _); refine o_ixL rfl ?_)
  | ((with_reducible show Op2 _ (rI CPow _) _ _ _ _); refine o_pow ⟨by decide, by decide, by decide⟩ rfl ?_)
  | with_reducible refine c_abs ?_
  | with_reducible refine c_int ?_
  | with_reducible refine c_min2 ?_
  | with_reducible refine c_max2 ?_
  | with_reducible refine c_gcd ?_
  | with_reducible refine sl_L ?_
  | with_reducible refine c_len (.lst _) ?_
  | with_reducible refine c_len (.tup _) ?_)
local macro_rules | `(tactic| walk_at "yx") => `(tactic| first
  | with_reducible refine ⟨_, rfl, ?_⟩
  | with_reducible refine ⟨_, _, rfl, ?_⟩
  | with_reducible refine ⟨fun _ => ?_, fun _ => ?_⟩
  | ((with_reducible show ∃ _ _ _ _ _ _, _ = _ ∧ _ = _ ∧ _ = _ ∧ _ = _ ∧ _); refine ⟨[], _, _, _, _, _, rfl, rfl, rfl, rfl, ?_⟩)
  | ((with_reducible show ∃ _ _ _ _ _, _ = _ ∧ _ = _ ∧ _ ∧ _ ∧ _ ∧ _ = _ ∧ _ = _ ∧ _); refine ⟨_, _, _, _, _, rfl, rfl, List.Mem.head _, by decide, by decide, rfl, rfl, ?_⟩)
  | ((with_reducible show ∃ _ _ _, _ = _ ∧ _ = _ ∧ _); refine ⟨[], _, _, rfl, rfl, ?_⟩)
  | ((with_reducible show ∃ _, Ds _ _ ∧ _ ∧ _); refine ⟨_, (by repeat (first | exact Ds.nil | apply Ds.cons)), (by simp), ?_⟩))
local macro_rules | `(tactic| walk_at "yy") => `(tactic| first | walk_at "ye" | walk_at "ya" | walk_at "ys" | walk_at "yo" | walk_at "yx" | walk_at "yc")

section
variable {P : Program} {w : World} {K : PySem.W.Frag} {mg : Str → Option Value} {base : Heap}
theorem ok_bag (B : Bt mg) (T : Stands K mg "_law_bag" s_l_bag ["script"]) : Has P w K mg base 1 "_law_bag" ["script"] (SpN K) := by
  refine hasN T sc_l_bag 1 rfl fun f cdv A outer s H E g hr => ⟨_, (pss_one (ps_ret (pe_lst (pa_cons pe_int (pa_cons pe_int (pa_cons pe_int (pa_cons (pe_lc (own := [("cell", 1)]) (g := gName 1) (tt := tYes) rfl sc_l_bag.nd (pi_list (pe_slice sl_list (pv 0) po_none (po_some pe_int))) (blkOk_by (N := N_l_bag) (sc := defScope s_l_bag) (by decide +kernel)) (fun _ _ _ _ _ => (pg_name (i := 1) sc_l_bag.nd rfl (by first | exact .inl rfl | exact .inr rfl))) (fun _ _ _ _ _ => pts_nil) (fun _ _ _ _ _ => (pe_callB call_abs (by rfl) B.b_abs (by decide +kernel) (pa_cons (pv 1) pa_nil)))) pa_nil))))))), ?_⟩
  try dsimp only [cxOf]
  intro ns hn
  repeat' walk_at "yy"
  refine ev_lc (own_name (by decide)) ?_
  repeat' walk_at "yy"
  refine sl_scr fun ms hm => ?_
  repeat' walk_at "yy"
  refine ⟨fun k acc M => acc = (ms.take k).map fun i => PyData.int (i.natAbs : Int), by simp, fun k d acc M hd e => ?_, fun acc M e => ?_⟩
  · rw [List.getElem?_map] at hd
    obtain ⟨i, hi, rfl⟩ : ∃ i, ms[k]? = some i ∧ PyData.int i = d := by
      cases z : ms[k]? with
      | none => rw [z] at hd; cases hd
      | some p => rw [z] at hd; exact ⟨p, rfl, Option.some.inj hd⟩
    have hk := (List.getElem?_eq_some_iff.mp hi).1
    refine ⟨by rw [e, List.length_map, List.length_take]; omega, ?_⟩
    repeat' walk_at "yy"
    · show _ = _
      have ep : ms[k] = i := by rw [List.getElem?_eq_getElem hk] at hi; exact Option.some.inj hi
      rw [e, List.take_succ_eq_append_getElem hk, List.map_append, ep, abs_if]
      rfl
    · simp_all
  · rw [List.length_map, List.take_length] at e
    subst e
    repeat' walk_at "yy"
    refine ⟨⟨0, 1234567891, 0, ms.map fun i => (i.natAbs : Int), by rw [List.length_map]; omega⟩, ?_⟩
    unfold Bag.ds
    rw [List.map_map]
    rfl

theorem ok_take (B : Bt mg) (T : Stands K mg "_law_take" s_l_take ["bag", "many"]) : Has P w K mg base 1 "_law_take" ["bag", "many"] (SpD K rTake) := by
  refine hasD T sc_l_take (fun ds po ⟨n, e, _⟩ => by rw [e]; rfl) 5 rfl fun f cdv A outer s H E g hr => ⟨_, (pss_cons (ps_if (pt_cmpR op_eq (pe_ix ix_list (pv 0) pe_int (fun _ _ => rfl)) pe_int (nomark _)) (pss_cons (ps_set (i := 2) sc_l_take.nd rfl (by first | exact .inl rfl | exact .inr rfl) (pe_ix ix_list (pe_op op_cat (pe_slice sl_list (pe_ix ix_list (pv 0) pe_int (fun _ _ => rfl)) (po_some (pe_ix ix_list (pv 0) pe_int (fun _ _ => rfl))) po_none) (pe_lst (pa_cons pe_int pa_nil))) pe_int (fun _ _ => rfl)))
      (pss_cons (ps_augS (pv 0) pe_int pget_list pe_int ip_add set_list)
      (pss_cons (ps_if (pt_cmpR op_ge (pv 2) (pe_op op_pow pe_int pe_int) (nomark _)) (pss_one (ps_asg (pv 2) (pg_sub (pv 0) pe_int set_list))) pss_nil)
      (pss_cons (ps_set (i := 3) sc_l_take.nd rfl (by first | exact .inl rfl | exact .inr rfl) (pe_op op_add (pe_op op_add (pe_op op_mulA (pe_ix ix_list (pv 0) pe_int (fun _ _ => rfl)) pe_int) (pe_op op_mod (pe_callTy call_int1 (by rfl) B.b_int (by decide +kernel) (pa_cons (pv 2) pa_nil)) pe_int)) (pe_op op_mulA pe_int (pe_ix ix_list (pv 0) pe_int (fun _ _ => rfl)))))
      (pss_one (ps_asg (pe_op op_mod (pe_callTy call_int1 (by rfl) B.b_int (by decide +kernel) (pa_cons (pv 3) pa_nil)) pe_int) (pg_sub (pv 0) pe_int set_list))))))) pss_nil)
      (pss_cons (ps_if (pt_cmpR op_gt (pe_ix ix_list (pv 0) pe_int (fun _ _ => rfl)) pe_int (nomark _)) (pss_cons (ps_set (i := 4) sc_l_take.nd rfl (by first | exact .inl rfl | exact .inr rfl) (pe_op op_mod (pe_callTy call_int1 (by rfl) B.b_int (by decide +kernel) (pa_cons (pe_ix ix_list (pv 0) pe_int (fun _ _ => rfl)) pa_nil)) (pv 1)))
      (pss_cons (ps_asg (pe_op op_divA (pe_callTy call_int1 (by rfl) B.b_int (by decide +kernel) (pa_cons (pe_ix ix_list (pv 0) pe_int (fun _ _ => rfl)) pa_nil)) (pv 1)) (pg_sub (pv 0) pe_int set_list))
      (pss_one (ps_ret (pv 4))))) pss_nil)
      (pss_cons (ps_set (i := 5) sc_l_take.nd rfl (by first | exact .inl rfl | exact .inr rfl) (pe_op op_mod (pe_callTy call_int1 (by rfl) B.b_int (by decide +kernel) (pa_cons (pe_op op_mulA (pe_op op_add (pe_ix ix_list (pv 0) pe_int (fun _ _ => rfl)) pe_int) pe_int) pa_nil)) pe_int))
      (pss_cons (ps_set (i := 6) sc_l_take.nd rfl (by first | exact .inl rfl | exact .inr rfl) (pe_op op_mod (pe_callTy call_int1 (by rfl) B.b_int (by decide +kernel) (pa_cons (pe_op op_mulA (pe_op op_mod (pe_callTy call_int1 (by rfl) B.b_int (by decide +kernel) (pa_cons (pe_op op_mulA (pv 5) (pv 5)) pa_nil)) pe_int) pe_int) pa_nil)) pe_int))
      (pss_one (ps_ret (pe_op op_mod (pe_callTy call_int1 (by rfl) B.b_int (by decide +kernel) (pa_cons (pe_op op_divA (pv 6) pe_int) pa_nil)) (pv 1)))))))), ?_⟩
  try dsimp only [cxOf]
  rintro b C ds po ⟨many, rfl, h0, hb, rfl⟩
  have hd : many.natAbs.log2 < 9000 := hb.div (by decide) (by decide)
  obtain ⟨ys, ey, ly⟩ := cutD_ints (xs := C.cs) (lo := some C.k) (hi := none)
  obtain ⟨fi, ef⟩ := first_int (ys := ys)
  have ok := C.ok
  have sm : ∀ x : Int, IntMulOk (x % 1000000007) (x % 1000000007) := fun x => mulL (by omega)
  repeat' walk_at "yy"
  · rw [ey, List.length_map]
    simp
    omega
  · rw [ey]
    refine o_ixL ef ?_
    repeat' (first | exact h0 | exact sm _ | refine o_div h0 hd ?_ | walk_at "yy" | exact ⟨⟨⟨_, _, _, C.cs, ok⟩, [], rfl⟩, _, rfl, Int.emod_nonneg _ (by omega), Int.emod_lt_of_pos _ h0⟩)
    all_goals (refine ⟨⟨⟨C.c, _, C.k + 1, C.cs, ok⟩, [], rfl⟩, ?_⟩)
    all_goals exact ⟨_, rfl, Int.emod_nonneg _ (by omega), Int.emod_lt_of_pos _ h0⟩
  all_goals repeat' (first | exact h0 | exact sm _ | refine o_div h0 hd ?_ | walk_at "yy" | exact ⟨⟨⟨_, _, _, C.cs, ok⟩, [], rfl⟩, _, rfl, Int.emod_nonneg _ (by omega), Int.emod_lt_of_pos _ h0⟩)

theorem ok_some (B : Bt mg) (D_l_take : Has P w K mg base 1 "_law_take" ["bag", "many"] (SpD K rTake)) (T : Stands K mg "_law_some" s_l_some ["bag", "things"]) : Has P w K mg base 2 "_law_some" ["bag", "things"] (SpD K rSome) := by
  refine hasD T sc_l_some (fun ds po ⟨n, e, _⟩ => by rw [e]; rfl) 0 rfl fun f cdv A outer s H E g hr => ⟨_, (pss_one (ps_ret (pe_ix ix_list (pv 1) (peD D_l_take g hr (by first | decide | exact Nat.le_refl _ | omega) (by rfl) (pa_cons (pv 0) (pa_cons (pe_callB call_len_seq (by rfl) B.b_len (by decide +kernel) (pa_cons (pv 1) pa_nil)) pa_nil))) (fun _ _ => rfl)))), ?_⟩
  try dsimp only [cxOf]
  rintro b C ds po ⟨things, rfl, hn, hl, rfl⟩
  repeat' walk_at "yy"
  refine c_take ?_ ?_ fun v C1 h0 h1 => ?_
  · have := List.length_pos_iff.mpr hn
    omega
  · exact Bd.up (j := 20) (by show _ < _; omega) (by decide)
  · obtain ⟨d, e, hd⟩ := at_some h0 h1
    refine o_ixL e ?_
    repeat' walk_at "yy"
    exact ⟨⟨C1, [], rfl⟩, hd⟩

theorem ok_alike (B : Bt mg) (T : Stands K mg "_law_alike" s_l_alike ["found", "due"]) : Has P w K mg base 1 "_law_alike" ["found", "due"] (SpQ K rAlike) := by
  refine hasQ T sc_l_alike (fun ds po ⟨d, e, _⟩ => by rw [e]; rfl) 0 rfl fun f cdv A outer s H E g hr => ⟨_, (pss_one (ps_ret (pe_and (pe_cmpR (op_eqD hr.units) (pv 0) (pv 1) (nomark _)) (pe_one (pe_cmpR op_eq (pe_callB (call_show g (room66 hr)) (by rfl) B.b_repr (by decide +kernel) (pa_cons (pv 0) pa_nil)) (pe_callB (call_show g (room66 hr)) (by rfl) B.b_repr (by decide +kernel) (pa_cons (pv 1) pa_nil)) (nomark _)))))), ?_⟩
  try dsimp only [cxOf]
  rintro ds po ⟨d, rfl, hd, rfl⟩
  have hs := hd.shaped (by decide)
  have hz := size_ok hd.len (by decide)
  repeat' walk_at "yy"
  refine o_eqD hs hs ?_
  rw [eqv_self hd]
  repeat' walk_at "yy"
  refine c_show hs hd.sho hz ?_
  repeat' walk_at "yy"
  refine c_show hs hd.sho hz ?_
  repeat' walk_at "yy"
  · simp
  · simp_all

end
end K53

set_option Elab.async false
set_option linter.all false
set_option maxRecDepth 100000
set_option maxHeartbeats 1000000
set_option exponentiation.threshold 20000
namespace K53
open PySem PySem.Spec PyProof.Rows L2 Yw
local macro_rules | `(tactic| walk_at "ye") => `(tactic| first
  | ((with_reducible show Ev _ (tVar _) _ _ _); first | refine ev_dat rfl ?_ | refine ev_ref rfl ?_ | refine ev_var rfl (fun z => nomatch z) ?_)
  | ((with_reducible show Ev _ (tC _) _ _ _); first | with_reducible refine ev_int ?_ | with_reducible refine ev_bl ?_ | with_reducible refine ev_non ?_ | with_reducible refine ev_str ?_ | with_reducible refine ev_ty ?_)
  | with_reducible refine ev_op ?_
  | with_reducible refine ev_un ?_
  | with_reducible refine ev_go ?_
  | with_reducible refine ev_cb ?_
  | with_reducible refine ev_tupD ?_
  | with_reducible refine ev_lstD ?_
  | with_reducible refine ev_chain ?_
  | with_reducible refine ev_if ?_
  | with_reducible refine ev_andV ?_
  | with_reducible refine ev_orV ?_
  | with_reducible refine ev_notV ?_
  | with_reducible refine ev_sl ?_
  | with_reducible refine ev_bm ?_)
local macro_rules | `(tactic| walk_at "ya") => `(tactic| first
  | with_reducible refine ea_cons ?_
  | with_reducible refine ea_nil ?_
  | with_reducible refine eo_none ?_
  | with_reducible refine eo_some ?_
  | with_reducible refine et_test ?_
  | with_reducible refine et_B ?_
  | with_reducible refine et_and ?_
  | with_reducible refine et_or ?_
  | with_reducible refine et_not ?_
  | with_reducible refine et_yes ?_
  | with_reducible refine tg_name ?_
  | with_reducible refine tgs_nil ?_
  | with_reducible refine tgs_cons ?_
  | ((with_reducible show Tg _ (gTup _ _ _) _ _ _ _); refine tg_tup rfl ?_)
  | with_reducible refine tg_sub ?_)
local macro_rules | `(tactic| walk_at "ys") => `(tactic| first
  | with_reducible refine sj_seq ?_
  | with_reducible refine sj_next ?_
  | with_reducible refine sj_newD ?_
  | with_reducible refine sj_set ?_
  | with_reducible refine sj_par ?_
  | with_reducible refine sj_ret ?_
  | with_reducible refine sj_drop ?_
  | with_reducible refine sj_if ?_
  | with_reducible refine sj_asg ?_
  | with_reducible refine sj_augS ?_
  | with_reducible refine iw_seq ?_
  | with_reducible refine iw_zip ?_
  | with_reducible refine iw_list ?_
  | with_reducible refine iw_tup ?_
  | with_reducible refine iw_r1 ?_
  | with_reducible refine iw_r2 ?_
  | with_reducible refine iw_enumT ?_)
local macro_rules | `(tactic| walk_at "yo") => `(tactic| first
  | with_reducible refine o_int ?_
  | with_reducible refine o_bool ?_
  | with_reducible refine o_mul (by first | exact mulR ⟨by decide, by decide⟩ | exact mulL ⟨by decide, by decide⟩) ?_
  | with_reducible refine o_mul ?_ ?_
  | with_reducible refine o_mod (by decide) ?_
  | with_reducible refine o_mod ?_ ?_
  | with_reducible refine o_div (by decide) (by decide +kernel) ?_
  | with_reducible refine o_cat ?_ ?_
  | with_reducible refine o_catT ?_ ?_
  | ((with_reducible show Op2 _ (rIxL _) (Ent.ref _) _ _ _); refine o_ixM (List.Mem.head _) rfl ?_)
  | with_reducible refine o_eqI ?_
  | with_reducible refine o_neI ?_
  | with_reducible refine o_eqS ?_
  | with_reducible refine o_neS ?_
  | with_reducible refine o_neg ?_
  | ((with_reducible show Op2 _ (rIxT _) _ _ _ _); refine o_ixT rfl ?_)
  | ((with_reducible show Op2 _ (rIxL _) (Ent.dat _) _ _ _); refine o_ixL rfl ?_)
  | ((with_reducible show Op2 _ (rI CPow _) _ _ _ _); refine o_pow ⟨by decide, by decide, by decide⟩ rfl ?_)
  | with_reducible refine c_abs ?_
  | with_reducible refine c_int ?_
  | with_reducible refine c_min2 ?_
  | with_reducible refine c_max2 ?_
  | with_reducible refine c_gcd ?_
  | with_reducible refine sl_L ?_
  | with_reducible refine c_len (.lst _) ?_
  | with_reducible refine c_len (.tup _) ?_)
local macro_rules | `(tactic| walk_at "yx") => `(tactic| first
  | with_reducible refine ⟨_, rfl, ?_⟩
  | with_reducible refine ⟨_, _, rfl, ?_⟩
  | with_reducible refine ⟨fun _ => ?_, fun _ => ?_⟩
  | ((with_reducible show ∃ _ _ _ _ _ _, _ = _ ∧ _ = _ ∧ _ = _ ∧ _ = _ ∧ _); refine ⟨[], _, _, _, _, _, rfl, rfl, rfl, rfl, ?_⟩)
  | ((with_reducible show ∃ _ _ _ _ _, _ = _ ∧ _ = _ ∧ _ ∧ _ ∧ _ ∧ _ = _ ∧ _ = _ ∧ _); refine ⟨_, _, _, _, _, rfl, rfl, List.Mem.head _, by decide, by decide, rfl, rfl, ?_⟩)
  | ((with_reducible show ∃ _ _ _, _ = _ ∧ _ = _ ∧ _); refine ⟨[], _, _, rfl, rfl, ?_⟩)
  | ((with_reducible show ∃ _, Ds _ _ ∧ _ ∧ _); refine ⟨_, (by repeat (first | exact Ds.nil | apply Ds.cons)), (by simp), ?_⟩))
local macro_rules | `(tactic| walk_at "yy") => `(tactic| first | walk_at "ye" | walk_at "ya" | walk_at "ys" | walk_at "yo" | walk_at "yx" | walk_at "yc")

local macro_rules | `(tactic| walk_at "yc") => `(tactic| first | with_reducible refine c_sumA (.lst _) ?_ | with_reducible refine c_sumA (.tup _) ?_)
local macro_rules | `(tactic| walk_at "ys") => `(tactic| with_reducible refine sj_parM ?_)
section
variable {P : Program} {w : World} {K : PySem.W.Frag} {mg : Str → Option Value} {base : Heap}
theorem ok_counts_to (B : Bt mg) (T : Stands K mg "counts_to" s_counts_to ["bounds", "data"]) : Has P w K mg base 1 "counts_to" ["bounds", "data"] (SpQ K rCounts) := by
  refine hasQ T sc_counts_to (fun ds po ⟨c, dr, sh, le, lo, most, n, e, _⟩ => by rw [e]; rfl) 5 rfl fun f cdv A outer s H E g hr => ⟨_, (pss_cons (ps_par (i := 2) (j := 3) (by rfl) sc_counts_to.nd rfl rfl (by decide) rfl rfl (pa_cons (pe_ix ix_tup (pv 0) pe_int (fun _ _ => rfl)) (pa_cons (pe_ix ix_tup (pv 0) pe_int (fun _ _ => rfl)) pa_nil)) (by rfl))
      (pss_cons (ps_par (i := 4) (j := 5) (by rfl) sc_counts_to.nd rfl rfl (by decide) rfl rfl (pa_cons (pe_lst (pa_cons pe_int pa_nil)) (pa_cons pe_int pa_nil)) (by rfl))
      (pss_cons (ps_for PassesOwn.never rfl (pi_range2 (by rfl) B.b_range (pa_cons pe_int (pa_cons (pe_op op_add (pv 1) pe_int) pa_nil))) (pg_name (i := 6) sc_counts_to.nd rfl (by first | exact .inl rfl | exact .inr rfl)) (pss_cons (ps_if (pt_cmpR op_ge (pv 6) (pv 2) (nomark _)) (pss_one (ps_aug (i := 5) sc_counts_to.nd rfl (by first | exact .inl rfl | exact .inr rfl) (pe_ix ix_list (pv 4) (pe_op op_sub (pv 6) (pv 2)) (fun _ _ => rfl)) ip_add)) pss_nil)
      (pss_cons (ps_if (pt_cmpR op_gt (pv 6) (pv 3) (nomark _)) (pss_one (ps_aug (i := 5) sc_counts_to.nd rfl (by first | exact .inl rfl | exact .inr rfl) (pe_ix ix_list (pv 4) (pe_op op_sub (pe_op op_sub (pv 6) (pv 3)) pe_int) (fun _ _ => rfl)) ip_sub)) pss_nil)
      (pss_one (ps_expr (pe_bm PySem.F.plainAttrs_list PySem.F.slot_list_append PySem.F.type_list_append mt_append (pv 4) (pa_cons (pv 5) pa_nil)))))))
      (pss_one (ps_ret (pe_callTy call_tuple_of (by rfl) B.b_tuple (by decide +kernel) (pa_cons (pv 4) pa_nil))))))), ?_⟩
  try dsimp only [cxOf]
  rintro ds po ⟨c, dr, sh, le, lo, most, n, rfl, h1, h2, h3, h4, rfl⟩
  repeat' walk_at "yy"
  intro p hp
  repeat' walk_at "yy"
  refine sj_for ?_
  repeat' walk_at "yy"
  refine ⟨by omega, ?_⟩
  refine ⟨fun k es M => ∃ e6, es = [.dat (bdD c dr sh (lo : Int) (most : Int) le), .dat (.int (n : Int)), .dat (.int (lo : Int)), .dat (.int (most : Int)), .ref p, .dat (.int (if k = 0 then 0 else cntL lo most k)), e6] ∧ M = [(p, .lst (((List.range (k + 1)).map (cntL lo most)).map PyData.int))], ⟨.no, rfl, ?_⟩, ?_, ?_⟩
  · show [(p, MO.lst [PyData.int 1])] = _
    simp [cntL, rowsL_zero]
  · rintro k d es M hd ⟨e6, rfl, rfl⟩
    obtain ⟨hk, rfl⟩ := rgD_at hd
    have hat : ∀ (l : Nat) (i : Int), i = (l : Int) → l ≤ k → atI (((List.range (k + 1)).map (cntL lo most)).map PyData.int) i = some (.int (cntL lo most l)) := fun l i e hl => by
      subst e
      refine atI_nat ?_
      rw [List.getElem?_map, List.getElem?_map, List.getElem?_range (by omega)]
      rfl
    have ws := win_step h1 h2 k
    have fin : ∀ b : Int, b = cntL lo most (k + 1) → ∃ e6, [Ent.dat (bdD c dr sh (lo : Int) (most : Int) le), .dat (.int (n : Int)), .dat (.int (lo : Int)), .dat (.int (most : Int)), .ref p, .dat (.int b), .dat (.int (1 + (k : Int)))] = [.dat (bdD c dr sh (lo : Int) (most : Int) le), .dat (.int (n : Int)), .dat (.int (lo : Int)), .dat (.int (most : Int)), .ref p, .dat (.int (if k + 1 = 0 then 0 else cntL lo most (k + 1))), e6] ∧ [(p, MO.lst (((List.range (k + 1)).map (cntL lo most)).map PyData.int ++ [.int b]))] = [(p, .lst (((List.range (k + 1 + 1)).map (cntL lo most)).map PyData.int))] := fun b e => by
      subst e
      refine ⟨_, by rw [if_neg (by omega)], ?_⟩
      rw [List.range_succ (n := k + 1), List.map_append, List.map_append]
      rfl
    have app : ∀ b : Int, b = cntL lo most (k + 1) → Mt K rAppend (.ref p) [.dat (.int b)] [(p, MO.lst (((List.range (k + 1)).map (cntL lo most)).map PyData.int))] fun _ M1 => ∃ e6, [Ent.dat (bdD c dr sh (lo : Int) (most : Int) le), .dat (.int (n : Int)), .dat (.int (lo : Int)), .dat (.int (most : Int)), .ref p, .dat (.int b), .dat (.int (1 + (k : Int)))] = [.dat (bdD c dr sh (lo : Int) (most : Int) le), .dat (.int (n : Int)), .dat (.int (lo : Int)), .dat (.int (most : Int)), .ref p, .dat (.int (if k + 1 = 0 then 0 else cntL lo most (k + 1))), e6] ∧ M1 = [(p, .lst (((List.range (k + 1 + 1)).map (cntL lo most)).map PyData.int))] := fun b e =>
      m_append (Ma := []) (Mb := []) rfl (by rw [List.length_map, List.length_map, List.length_range]; omega) (fin b e)
    repeat' (first | refine sj_aug rfl ?_ | (refine o_ixM (List.Mem.head _) (hat (k + 1 - lo) _ (by have := of_decide_eq_true ‹_›; omega) (by omega)) ?_) | (refine o_ixM (List.Mem.head _) (hat (k - most) _ (by have := of_decide_eq_true ‹_›; omega) (by omega)) ?_) | refine ⟨ty_ref (List.Mem.head _), ?_⟩ | walk_at "yy")
    all_goals refine app _ ?_
    all_goals rw [← ws]
    · have a1 := of_decide_eq_true ‹decide ((lo : Int) ≤ 1 + (k : Int)) = true›
      have a2 := of_decide_eq_true ‹decide ((most : Int) < 1 + (k : Int)) = true›
      rw [if_pos (by omega : lo ≤ k + 1), if_pos (by omega : most < k + 1)]
    · have a1 := of_decide_eq_true ‹decide ((lo : Int) ≤ 1 + (k : Int)) = true›
      have a2 := of_decide_eq_false ‹decide ((most : Int) < 1 + (k : Int)) = false›
      rw [if_pos (by omega : lo ≤ k + 1), if_neg (by omega : ¬ most < k + 1)]
      omega
    · have a1 := of_decide_eq_false ‹decide ((lo : Int) ≤ 1 + (k : Int)) = false›
      have a2 := of_decide_eq_true ‹decide ((most : Int) < 1 + (k : Int)) = true›
      rw [if_neg (by omega : ¬ lo ≤ k + 1), if_pos (by omega : most < k + 1)]
      omega
    · have a1 := of_decide_eq_false ‹decide ((lo : Int) ≤ 1 + (k : Int)) = false›
      have a2 := of_decide_eq_false ‹decide ((most : Int) < 1 + (k : Int)) = false›
      rw [if_neg (by omega : ¬ lo ≤ k + 1), if_neg (by omega : ¬ most < k + 1)]
      omega
  · rintro es M ⟨e6, rfl, rfl⟩
    rw [rgD_len]
    refine sj_fast [] [] rfl hp (.keep (.keep (.keep (.keep (.hit (.keep (.keep .nil))))))) ?_
    repeat' walk_at "yy"
    refine c_tuple (.lst _) ?_
    repeat' walk_at "yy"
    show _ = _
    unfold cntsD
    rw [show ((n : Int) + 1 - 1).toNat + 1 = n + 1 by omega]
end
end K53

set_option Elab.async false
set_option linter.all false
set_option maxRecDepth 100000
set_option maxHeartbeats 1000000
set_option exponentiation.threshold 20000
namespace K53
open PySem PySem.Spec PyProof.Rows L2 Yw
local macro_rules | `(tactic| walk_at "ye") => `(tactic| first
  | ((with_reducible show Ev _ (tVar _) _ _ _); first | refine ev_dat rfl ?_ | refine ev_ref rfl ?_ | refine ev_var rfl (fun z => nomatch z) ?_)
  | ((with_reducible show Ev _ (tC _) _ _ _); first | with_reducible refine ev_int ?_ | with_reducible refine ev_bl ?_ | with_reducible refine ev_non ?_ | with_reducible refine ev_str ?_ | with_reducible refine ev_ty ?_)
  | with_reducible refine ev_op ?_
  | with_reducible refine ev_un ?_
  | with_reducible refine ev_go ?_
  | with_reducible refine ev_cb ?_
  | with_reducible refine ev_tupD ?_
  | with_reducible refine ev_lstD ?_
  | with_reducible refine ev_chain ?_
  | with_reducible refine ev_if ?_
  | with_reducible refine ev_andV ?_
  | with_reducible refine ev_orV ?_
  | with_reducible refine ev_notV ?_
  | with_reducible refine ev_sl ?_
  | with_reducible refine ev_bm ?_)
local macro_rules | `(tactic| walk_at "ya") => `(tactic| first
  | with_reducible refine ea_cons ?_
  | with_reducible refine ea_nil ?_
  | with_reducible refine eo_none ?_
  | with_reducible refine eo_some ?_
  | with_reducible refine et_test ?_
  | with_reducible refine et_B ?_
  | with_reducible refine et_and ?_
  | with_reducible refine et_or ?_
  | with_reducible refine et_not ?_
  | with_reducible refine et_yes ?_
  | with_reducible refine tg_name ?_
  | with_reducible refine tgs_nil ?_
  | with_reducible refine tgs_cons ?_
  | ((with_reducible show Tg _ (gTup _ _ _) _ _ _ _); refine tg_tup rfl ?_)
  | with_reducible refine tg_sub ?_)
local macro_rules | `(tactic| walk_at "ys") => `(tactic| first
  | with_reducible refine sj_seq ?_
  | with_reducible refine sj_next ?_
  | with_reducible refine sj_newD ?_
  | with_reducible refine sj_set ?_
  | with_reducible refine sj_par ?_
  | with_reducible refine sj_ret ?_
  | with_reducible refine sj_drop ?_
  | with_reducible refine sj_if ?_
  | with_reducible refine sj_asg ?_
  | with_reducible refine sj_augS ?_
  | with_reducible refine iw_seq ?_
  | with_reducible refine iw_zip ?_
  | with_reducible refine iw_list ?_
  | with_reducible refine iw_tup ?_
  | with_reducible refine iw_r1 ?_
  | with_reducible refine iw_r2 ?_
  | with_reducible refine iw_enumT ?_)
local macro_rules | `(tactic| walk_at "yo") => `(tactic| first
  | with_reducible refine o_int ?_
  | with_reducible refine o_bool ?_
  | with_reducible refine o_mul (by first | exact mulR ⟨by decide, by decide⟩ | exact mulL ⟨by decide, by decide⟩) ?_
  | with_reducible refine o_mul ?_ ?_
  | with_reducible refine o_mod (by decide) ?_
  | with_reducible refine o_mod ?_ ?_
  | with_reducible refine o_div (by decide) (by decide +kernel) ?_
  | with_reducible refine o_cat ?_ ?_
  | with_reducible refine o_catT ?_ ?_
  | ((with_reducible show Op2 _ (rIxL _) (Ent.ref _) _ _ _); refine o_ixM (List.Mem.head _) rfl ?_)
  | with_reducible refine o_eqI ?_
  | with_reducible refine o_neI ?_
  | with_reducible refine o_eqS ?_
  | with_reducible refine o_neS ?_
  | with_reducible refine o_neg ?_
  | ((with_reducible show Op2 _ (rIxT _) _ _ _ _); refine o_ixT rfl ?_)
  | ((with_reducible show Op2 _ (rIxL _) (Ent.dat _) _ _ _); refine o_ixL rfl ?_)
  | ((with_reducible show Op2 _ (rI CPow _) _ _ _ _); refine o_pow ⟨by decide, by decide, by decide⟩ rfl ?_)
  | with_reducible refine c_abs ?_
  | with_reducible refine c_int ?_
  | with_reducible refine c_min2 ?_
  | with_reducible refine c_max2 ?_
  | with_reducible refine c_gcd ?_
  | with_reducible refine sl_L ?_
  | with_reducible refine c_len (.lst _) ?_
  | with_reducible refine c_len (.tup _) ?_)
local macro_rules | `(tactic| walk_at "yx") => `(tactic| first
  | with_reducible refine ⟨_, rfl, ?_⟩
  | with_reducible refine ⟨_, _, rfl, ?_⟩
  | with_reducible refine ⟨fun _ => ?_, fun _ => ?_⟩
  | ((with_reducible show ∃ _ _ _ _ _ _, _ = _ ∧ _ = _ ∧ _ = _ ∧ _ = _ ∧ _); refine ⟨[], _, _, _, _, _, rfl, rfl, rfl, rfl, ?_⟩)
  | ((with_reducible show ∃ _ _ _ _ _, _ = _ ∧ _ = _ ∧ _ ∧ _ ∧ _ ∧ _ = _ ∧ _ = _ ∧ _); refine ⟨_, _, _, _, _, rfl, rfl, List.Mem.head _, by decide, by decide, rfl, rfl, ?_⟩)
  | ((with_reducible show ∃ _ _ _, _ = _ ∧ _ = _ ∧ _); refine ⟨[], _, _, rfl, rfl, ?_⟩)
  | ((with_reducible show ∃ _, Ds _ _ ∧ _ ∧ _); refine ⟨_, (by repeat (first | exact Ds.nil | apply Ds.cons)), (by simp), ?_⟩))
local macro_rules | `(tactic| walk_at "yy") => `(tactic| first | walk_at "ye" | walk_at "ya" | walk_at "ys" | walk_at "yo" | walk_at "yx" | walk_at "yc")

local macro_rules | `(tactic| walk_at "yc") => `(tactic| first | with_reducible refine c_take ?_ ?_ ?_)
def rGcdL : RR := fun ds po => ∃ n d, ds = [.int n, .int d] ∧ po = fun r => r = .int (Int.gcd n d : Nat)
theorem c_gcdL {K : PySem.W.Frag} {M : MM} {Q : Ent → MM → Prop} {n d : Int} (p : Q (.dat (.int (Int.gcd n d : Nat))) M) : Cb K (fun vs H Q => SpQ K rGcdL vs H Q E0) [.dat (.int n), .dat (.int d)] M Q :=
  c_Q (.cons (.cons .nil)) _ ⟨n, d, rfl, rfl⟩ fun r e => by rw [e]; exact p
section
variable {P : Program} {w : World} {K : PySem.W.Frag} {mg : Str → Option Value} {base : Heap}
theorem ok_l_common (B : Bt mg) (T : Stands K mg "_law_common" s_l_common ["one", "other"]) : Has P w K mg base 1 "_law_common" ["one", "other"] (SpQ K rGcdL) := by
  refine hasQ T sc_l_common (fun ds po ⟨n, d, e, _⟩ => by rw [e]; rfl) 0 rfl fun f cdv A outer s H E g hr => ⟨_, (pss_cons (ps_par (i := 0) (j := 1) (by rfl) sc_l_common.nd rfl rfl (by decide) rfl rfl (pa_cons (pe_callB call_abs (by rfl) B.b_abs (by decide +kernel) (pa_cons (pv 0) pa_nil)) (pa_cons (pe_callB call_abs (by rfl) B.b_abs (by decide +kernel) (pa_cons (pv 1) pa_nil)) pa_nil)) (by rfl))
      (pss_cons (ps_while PassesOwn.never (pt_cmpR op_gt (pv 1) pe_int (nomark _)) (pss_one (ps_par (i := 0) (j := 1) (by rfl) sc_l_common.nd rfl rfl (by decide) rfl rfl (pa_cons (pv 1) (pa_cons (pe_op op_mod (pe_callTy call_int1 (by rfl) B.b_int (by decide +kernel) (pa_cons (pv 0) pa_nil)) (pv 1)) pa_nil)) (by rfl))))
      (pss_one (ps_ret (pv 0))))), ?_⟩
  try dsimp only [cxOf]
  rintro ds po ⟨n, d, rfl, rfl⟩
  repeat' walk_at "yy"
  rw [abs_if, abs_if]
  refine sj_while (fun m es M => ∃ a b : Nat, m = b ∧ es = [.dat (.int a), .dat (.int b)] ∧ Nat.gcd a b = Int.gcd n d) d.natAbs ⟨n.natAbs, d.natAbs, rfl, rfl, rfl⟩ ?_
  rintro m es M ⟨a, b, rfl, rfl, hg⟩
  repeat' walk_at "yy"
  · rename_i h
    exact of_decide_eq_true h
  · rename_i h
    have c : (0 : Int) < (m : Int) := of_decide_eq_true h
    repeat' walk_at "yy"
    refine ⟨a % m, Nat.mod_lt _ (by omega), m, a % m, rfl, ?_, ?_⟩
    · rfl
    · rw [← hg, Nat.gcd_comm a m, Nat.gcd_rec m a, Nat.gcd_comm]
  · rename_i h1
    have c : m = 0 := by
      have : ¬ (0 : Int) < (m : Int) := of_decide_eq_false h1
      omega
    subst c
    rw [Nat.gcd_zero_right] at hg
    subst hg
    rfl
theorem ok_l_fraction (B : Bt mg) (D_l_common : Has P w K mg base 1 "_law_common" ["one", "other"] (SpQ K rGcdL)) (T : Stands K mg "_law_fraction" s_l_fraction ["n", "d"]) : Has P w K mg base 2 "_law_fraction" ["n", "d"] (spRed K) := by
  refine hasP T sc_l_fraction (fun ds ⟨n, d, e, _⟩ => by rw [e]; rfl) 1 rfl fun f cdv A outer s H E g hr => ⟨_, (pss_cons (ps_set (i := 2) sc_l_fraction.nd rfl (by first | exact .inl rfl | exact .inr rfl) (pe_ifExp (pt_cmpR op_gt (pv 1) pe_int (nomark _)) (peD D_l_common g hr (by first | decide | exact Nat.le_refl _ | omega) (by rfl) (pa_cons (pv 0) (pa_cons (pv 1) pa_nil))) (pe_un un_neg (peD D_l_common g hr (by first | decide | exact Nat.le_refl _ | omega) (by rfl) (pa_cons (pv 0) (pa_cons (pv 1) pa_nil))))))
      (pss_one (ps_ret (pe_tup (pa_cons (pe_op op_divA (pe_callTy call_int1 (by rfl) B.b_int (by decide +kernel) (pa_cons (pv 0) pa_nil)) (pv 2)) (pa_cons (pe_op op_divA (pe_callTy call_int1 (by rfl) B.b_int (by decide +kernel) (pa_cons (pv 1) pa_nil)) (pv 2)) pa_nil)))))), ?_⟩
  try dsimp only [cxOf]
  rintro ds ⟨n, d, rfl, hd, bn, bd⟩
  have z := sg_ne (n := n) hd
  have bs := (sg_bd (n := n) hd bd).div (by decide) (by decide)
  repeat' walk_at "yy"
  all_goals refine c_gcdL ?_
  all_goals repeat' walk_at "yy"
  · rename_i h2
    have c : 0 < d := of_decide_eq_true h2
    have es : ((Int.gcd n d : Nat) : Int) = sg n d := by unfold sg; rw [if_neg (by omega)]
    rw [es]
    repeat' (first | exact z | exact bs | refine o_divA z bs ?_ | walk_at "yy")
    intro n' d' h
    cases h
    rfl
  · rename_i h2
    have c : ¬ 0 < d := of_decide_eq_false h2
    have es : -((Int.gcd n d : Nat) : Int) = sg n d := by unfold sg; rw [if_pos (by omega)]
    rw [es]
    repeat' (first | exact z | exact bs | refine o_divA z bs ?_ | walk_at "yy")
    intro n' d' h
    cases h
    rfl
def rSizeL : RR := fun ds po => ds = [] ∧ po = fun r => ∃ a b, r = fr a b ∧ Fq 10 a b
theorem c_sizeL {K : PySem.W.Frag} {b : Addr} {C : Bag} {Mr : MM} {Q : Ent → MM → Prop} (p : ∀ x y C1, Fq 10 x y → Q (.dat (fr x y)) ((b, .lst (Bag.ds C1)) :: Mr)) : Cb K (fun vs H Q => SpD K rSizeL vs H Q E0) [.ref b] ((b, .lst (Bag.ds C)) :: Mr) Q :=
  c_D .nil _ ⟨rfl, rfl⟩ fun d C1 ⟨x, y, h, hq⟩ => by rw [h]; exact p x y C1 hq
theorem ok_l_size (B : Bt mg) (D_l_some : Has P w K mg base 2 "_law_some" ["bag", "things"] (SpD K rSome)) (D_l_fraction : Has P w K mg base 2 "_law_fraction" ["n", "d"] (spRed K)) (T : Stands K mg "_law_size" s_l_size ["bag"]) : Has P w K mg base 3 "_law_size" ["bag"] (SpD K rSizeL) := by
  refine hasD T sc_l_size (fun ds po ⟨h, _⟩ => by rw [h]; rfl) 0 rfl fun f cdv A outer s H E g hr => ⟨_, (pss_one (ps_ret (peD D_l_fraction g hr (by first | decide | exact Nat.le_refl _ | omega) (by rfl) (pa_cons (peD D_l_some g hr (by first | decide | exact Nat.le_refl _ | omega) (by rfl) (pa_cons (pv 0) (pa_cons (pe_lst (pa_cons pe_int (pa_cons pe_int (pa_cons pe_int (pa_cons pe_int (pa_cons pe_int (pa_cons pe_int pa_nil))))))) pa_nil))) (pa_cons (peD D_l_some g hr (by first | decide | exact Nat.le_refl _ | omega) (by rfl) (pa_cons (pv 0) (pa_cons (pe_lst (pa_cons pe_int (pa_cons pe_int (pa_cons pe_int (pa_cons pe_int (pa_cons pe_int pa_nil)))))) pa_nil))) pa_nil))))), ?_⟩
  try dsimp only [cxOf]
  rintro b C ds po ⟨rfl, rfl⟩
  repeat' walk_at "yy"
  refine c_some (by simp) (by simp) fun d C1 hd => ?_
  obtain ⟨x, rfl, x0⟩ : ∃ x : Int, d = .int x ∧ (0 ≤ x ∧ x ≤ 10) := by
    simp only [List.mem_cons, List.not_mem_nil, or_false] at hd
    rcases hd with e | e | e | e | e | e
    all_goals exact ⟨_, e, by decide⟩
  clear hd
  repeat' walk_at "yy"
  refine c_some (by simp) (by simp) fun d C2 hd => ?_
  obtain ⟨y, rfl, y0⟩ : ∃ y : Int, d = .int y ∧ (1 ≤ y ∧ y ≤ 10) := by
    simp only [List.mem_cons, List.not_mem_nil, or_false] at hd
    rcases hd with e | e | e | e | e
    all_goals exact ⟨_, e, by decide⟩
  clear hd
  repeat' walk_at "yy"
  refine c_reduced (by omega) (Bd.up (j := 10) (by show _ < _; omega) (by decide)) (Bd.up (j := 10) (by show _ < _; omega) (by decide)) ?_
  repeat' walk_at "yy"
  exact ⟨⟨C2, [], rfl⟩, _, _, rfl, red_fq (by omega) (by show _ < _; omega) (by show _ < _; omega)⟩
end
end K53

set_option Elab.async false
set_option linter.all false
set_option maxRecDepth 100000
set_option maxHeartbeats 1000000
set_option exponentiation.threshold 20000
namespace K53
open PySem PySem.Spec PyProof.Rows L2 Yw
local macro_rules | `(tactic| walk_at "ye") => `(tactic| first
  | ((with_reducible show Ev _ (tVar _) _ _ _); first | refine ev_dat rfl ?_ | refine ev_ref rfl ?_ | refine ev_var rfl (fun z => nomatch z) ?_)
  | ((with_reducible show Ev _ (tC _) _ _ _); first | with_reducible refine ev_int ?_ | with_reducible refine ev_bl ?_ | with_reducible refine ev_non ?_ | with_reducible refine ev_str ?_ | with_reducible refine ev_ty ?_)
  | with_reducible refine ev_op ?_
  | with_reducible refine ev_un ?_
  | with_reducible refine ev_go ?_
  | with_reducible refine ev_cb ?_
  | with_reducible refine ev_tupD ?_
  | with_reducible refine ev_lstD ?_
  | with_reducible refine ev_chain ?_
  | with_reducible refine ev_if ?_
  | with_reducible refine ev_andV ?_
  | with_reducible refine ev_orV ?_
  | with_reducible refine ev_notV ?_
  | with_reducible refine ev_sl ?_
  | with_reducible refine ev_bm ?_)
local macro_rules | `(tactic| walk_at "ya") => `(tactic| first
  | with_reducible refine ea_cons ?_
  | with_reducible refine ea_nil ?_
  | with_reducible refine eo_none ?_
  | with_reducible refine eo_some ?_
  | with_reducible refine et_test ?_
  | with_reducible refine et_B ?_
  | with_reducible refine et_and ?_
  | with_reducible refine et_or ?_
  | with_reducible refine et_not ?_
  | with_reducible refine et_yes ?_
  | with_reducible refine tg_name ?_
  | with_reducible refine tgs_nil ?_
  | with_reducible refine tgs_cons ?_
  | ((with_reducible show Tg _ (gTup _ _ _) _ _ _ _); refine tg_tup rfl ?_)
  | with_reducible refine tg_sub ?_)
local macro_rules | `(tactic| walk_at "ys") => `(tactic| first
  | with_reducible refine sj_seq ?_
  | with_reducible refine sj_next ?_
  | with_reducible refine sj_newD ?_
  | with_reducible refine sj_set ?_
  | with_reducible refine sj_par ?_
  | with_reducible refine sj_ret ?_
  | with_reducible refine sj_drop ?_
  | with_reducible refine sj_if ?_
  | with_reducible refine sj_asg ?_
  | with_reducible refine sj_augS ?_
  | with_reducible refine iw_seq ?_
  | with_reducible refine iw_zip ?_
  | with_reducible refine iw_list ?_
  | with_reducible refine iw_tup ?_
  | with_reducible refine iw_r1 ?_
  | with_reducible refine iw_r2 ?_
  | with_reducible refine iw_enumT ?_)
local macro_rules | `(tactic| walk_at "yo") => `(tactic| first
  | with_reducible refine o_int ?_
  | with_reducible refine o_bool ?_
  | with_reducible refine o_mul (by first | exact mulR ⟨by decide, by decide⟩ | exact mulL ⟨by decide, by decide⟩) ?_
  | with_reducible refine o_mul ?_ ?_
  | with_reducible refine o_mod (by decide) ?_
  | with_reducible refine o_mod ?_ ?_
  | with_reducible refine o_div (by decide) (by decide +kernel) ?_
  | with_reducible refine o_cat ?_ ?_
  | with_reducible refine o_catT ?_ ?_
  | ((with_reducible show Op2 _ (rIxL _) (Ent.ref _) _ _ _); refine o_ixM (List.Mem.head _) rfl ?_)
  | with_reducible refine o_eqI ?_
  | with_reducible refine o_neI ?_
  | with_reducible refine o_eqS ?_
  | with_reducible refine o_neS ?_
  | with_reducible refine o_neg ?_
  | ((with_reducible show Op2 _ (rIxT _) _ _ _ _); refine o_ixT rfl ?_)
  | ((with_reducible show Op2 _ (rIxL _) (Ent.dat _) _ _ _); refine o_ixL rfl ?_)
  | ((with_reducible show Op2 _ (rI CPow _) _ _ _ _); refine o_pow ⟨by decide, by decide, by decide⟩ rfl ?_)
  | with_reducible refine c_abs ?_
  | with_reducible refine c_int ?_
  | with_reducible refine c_min2 ?_
  | with_reducible refine c_max2 ?_
  | with_reducible refine c_gcd ?_
  | with_reducible refine sl_L ?_
  | with_reducible refine c_len (.lst _) ?_
  | with_reducible refine c_len (.tup _) ?_)
local macro_rules | `(tactic| walk_at "yx") => `(tactic| first
  | with_reducible refine ⟨_, rfl, ?_⟩
  | with_reducible refine ⟨_, _, rfl, ?_⟩
  | with_reducible refine ⟨fun _ => ?_, fun _ => ?_⟩
  | ((with_reducible show ∃ _ _ _ _ _ _, _ = _ ∧ _ = _ ∧ _ = _ ∧ _ = _ ∧ _); refine ⟨[], _, _, _, _, _, rfl, rfl, rfl, rfl, ?_⟩)
  | ((with_reducible show ∃ _ _ _ _ _, _ = _ ∧ _ = _ ∧ _ ∧ _ ∧ _ ∧ _ = _ ∧ _ = _ ∧ _); refine ⟨_, _, _, _, _, rfl, rfl, List.Mem.head _, by decide, by decide, rfl, rfl, ?_⟩)
  | ((with_reducible show ∃ _ _ _, _ = _ ∧ _ = _ ∧ _); refine ⟨[], _, _, rfl, rfl, ?_⟩)
  | ((with_reducible show ∃ _, Ds _ _ ∧ _ ∧ _); refine ⟨_, (by repeat (first | exact Ds.nil | apply Ds.cons)), (by simp), ?_⟩))
local macro_rules | `(tactic| walk_at "yy") => `(tactic| first | walk_at "ye" | walk_at "ya" | walk_at "ys" | walk_at "yo" | walk_at "yx" | walk_at "yc")

local macro_rules | `(tactic| walk_at "yc") => `(tactic| first | with_reducible refine c_reduced ?_ ?_ ?_ ?_)
/-! ### fractions, and what is least -/
def qtimes (p q : Int × Int) : Int × Int := (redN (p.1 * q.1) (p.2 * q.2), redD (p.1 * q.1) (p.2 * q.2))
theorem qtimes_fq {j k : Nat} {p q : Int × Int} (hp : FqQ j p) (hq : FqQ k q) : FqQ (j + k) (qtimes p q) :=
  red_fq (by have := Int.mul_pos hp.fr.1 hq.fr.1; omega) (hp.n.mul hq.n) (hp.d.mul hq.d)
def belowB (p q : Int × Int) : Bool := decide (p.1 * q.2 < q.1 * p.2)
theorem below_tr {p q r : Int × Int} (hp : 0 < p.2) (hq : 0 < q.2) (hr : 0 < r.2) (a : belowB p q = true) (b : belowB q r = true) : belowB p r = true := by
  have a := of_decide_eq_true a
  have b := of_decide_eq_true b
  refine decide_eq_true ?_
  have h1 := Int.mul_lt_mul_of_pos_right a hr
  have h2 := Int.mul_lt_mul_of_pos_right b hp
  have h3 : p.1 * r.2 * q.2 < r.1 * p.2 * q.2 := by
    rw [show p.1 * q.2 * r.2 = p.1 * r.2 * q.2 by grind] at h1
    rw [show r.1 * q.2 * p.2 = r.1 * p.2 * q.2 by grind] at h2
    rw [show q.1 * p.2 * r.2 = q.1 * r.2 * p.2 by grind] at h1
    omega
  exact Int.lt_of_mul_lt_mul_right h3 (Int.le_of_lt hq)
theorem below_ir {p : Int × Int} : belowB p p = false := decide_eq_false (by omega)
theorem one_fq {x : Int} (h0 : -1000 < x) (h1 : x < 1000) : FqQ 10 (x, (1 : Int)) := ⟨⟨show (0 : Int) < 1 by decide, by simp [Int.gcd]⟩, show x.natAbs < 2 ^ 10 by omega, show (1 : Int).natAbs < 2 ^ 10 by decide⟩
/-- PHI, as the law tells it -/
def ph (D S : Int × Int) (t : Int) : Int × Int := qadd (redN (4 * S.1) (S.2 * t), redD (4 * S.1) (S.2 * t)) (qtimes D (t - 1, 1))
structure Dq (D S : Int × Int) : Prop where
  d : FqQ 10 D
  s : FqQ 10 S
theorem ph_fq {D S : Int × Int} (h : Dq D S) {t : Int} (h1 : 1 ≤ t) (h2 : t < 1000) : FqQ 100 (ph D S t) := by
  have bt : Bd 10 t := by show _ < _; omega
  have bt1 : FqQ 10 (t - 1, (1 : Int)) := one_fq (by omega) (by omega)
  have b4 : Bd 3 (4 : Int) := by show _ < _; decide
  have pp := Int.mul_pos h.s.fr.1 (show 0 < t by omega)
  have f1 : FqQ 20 (redN (4 * S.1) (S.2 * t), redD (4 * S.1) (S.2 * t)) := red_fq (by omega) ((b4.mul h.s.n).up (by decide)) ((h.s.d.mul bt).up (by decide))
  exact Fq.up (qadd_fq f1 (qtimes_fq h.d bt1)) (by decide)
def optQ : Option (Int × Int) → PyData
  | none => .none
  | some q => frq q
def rAdd : RR := fun ds po => ∃ p q, ds = [frq p, frq q] ∧ FqQ 2000 p ∧ FqQ 2000 q ∧ po = fun r => r = frq (qadd p q)
def rTimes : RR := fun ds po => ∃ p q, ds = [frq p, frq q] ∧ FqQ 2000 p ∧ FqQ 2000 q ∧ po = fun r => r = frq (qtimes p q)
def rBelow : RR := fun ds po => ∃ p q, ds = [frq p, frq q] ∧ FqQ 2000 p ∧ FqQ 2000 q ∧ po = fun r => r = .bool (belowB p q)
abbrev bdQ (c : Int) (D S : Int × Int) (lo most le : Nat) : PyData := .tuple [.int c, frq D, frq S, .int (lo : Int), .int (most : Int), .int (le : Int)]
def rPhi : RR := fun ds po => ∃ c D S lo most le t, ds = [bdQ c D S lo most le, .int t] ∧ Dq D S ∧ 1 ≤ t ∧ t < 1000 ∧ po = fun r => r = frq (ph D S t)
def rLeastL : RR := fun ds po => ∃ qs : List (Int × Int), ds = [.list (frs qs)] ∧ qs ≠ [] ∧ qs.length ≤ 100 ∧ (∀ q ∈ qs, FqQ 2000 q) ∧ po = fun r => ∃ q ∈ qs, r = frq q
section
variable {K : PySem.W.Frag} {M : MM} {Q : Ent → MM → Prop}
theorem c_add {x y : Int × Int} (hx : FqQ 2000 x) (hy : FqQ 2000 y) (p : Q (.dat (frq (qadd x y))) M) : Cb K (fun vs H Q => SpQ K rAdd vs H Q E0) [.dat (frq x), .dat (frq y)] M Q := c_Q (.cons (.cons .nil)) _ ⟨x, y, rfl, hx, hy, rfl⟩ fun r e => by rw [e]; exact p
theorem c_timesL {x y : Int × Int} (hx : FqQ 2000 x) (hy : FqQ 2000 y) (p : Q (.dat (frq (qtimes x y))) M) : Cb K (fun vs H Q => SpQ K rTimes vs H Q E0) [.dat (frq x), .dat (frq y)] M Q := c_Q (.cons (.cons .nil)) _ ⟨x, y, rfl, hx, hy, rfl⟩ fun r e => by rw [e]; exact p
theorem c_below {x y : Int × Int} (hx : FqQ 2000 x) (hy : FqQ 2000 y) (p : Q (.dat (.bool (belowB x y))) M) : Cb K (fun vs H Q => SpQ K rBelow vs H Q E0) [.dat (frq x), .dat (frq y)] M Q := c_Q (.cons (.cons .nil)) _ ⟨x, y, rfl, hx, hy, rfl⟩ fun r e => by rw [e]; exact p
theorem c_phi {c : Int} {D S : Int × Int} {lo most le : Nat} {t : Int} (h : Dq D S) (h1 : 1 ≤ t) (h2 : t < 1000) (p : Q (.dat (frq (ph D S t))) M) : Cb K (fun vs H Q => SpQ K rPhi vs H Q E0) [.dat (bdQ c D S lo most le), .dat (.int t)] M Q := c_Q (.cons (.cons .nil)) _ ⟨c, D, S, lo, most, le, t, rfl, h, h1, h2, rfl⟩ fun r e => by rw [e]; exact p
end
theorem frs_len (fs : List (Int × Int)) : (frs fs).length = fs.length := List.length_map ..
section
variable {P : Program} {w : World} {K : PySem.W.Frag} {mg : Str → Option Value} {base : Heap}
theorem ok_l_added (B : Bt mg) (D_l_fraction : Has P w K mg base 2 "_law_fraction" ["n", "d"] (spRed K)) (T : Stands K mg "_law_added" s_l_added ["one", "other"]) : Has P w K mg base 3 "_law_added" ["one", "other"] (SpQ K rAdd) := by
  refine hasQ T sc_l_added (fun ds po ⟨p, q, e, _⟩ => by rw [e]; rfl) 0 rfl fun f cdv A outer s H E g hr => ⟨_, (pss_one (ps_ret (peD D_l_fraction g hr (by first | decide | exact Nat.le_refl _ | omega) (by rfl) (pa_cons (pe_op op_add (pe_op op_mulA (pe_ix ix_tup (pv 0) pe_int (fun _ _ => rfl)) (pe_ix ix_tup (pv 1) pe_int (fun _ _ => rfl))) (pe_op op_mulA (pe_ix ix_tup (pv 1) pe_int (fun _ _ => rfl)) (pe_ix ix_tup (pv 0) pe_int (fun _ _ => rfl)))) (pa_cons (pe_op op_mulA (pe_ix ix_tup (pv 0) pe_int (fun _ _ => rfl)) (pe_ix ix_tup (pv 1) pe_int (fun _ _ => rfl))) pa_nil))))), ?_⟩
  try dsimp only [cxOf]
  rintro ds po ⟨p, q, rfl, hp, hq, rfl⟩
  have o1 : IntMulOk p.1 q.2 := mk2 hp.n hq.d
  have o2 : IntMulOk q.1 p.2 := mk2 hq.n hp.d
  have o3 : IntMulOk p.2 q.2 := mk2 hp.d hq.d
  have pp := Int.mul_pos hp.fr.1 hq.fr.1
  have n1 : Bd 8000 (p.1 * q.2 + q.1 * p.2) := ((hp.n.mul hq.d).add (hq.n.mul hp.d)).up (by decide)
  have n2 : Bd 8000 (p.2 * q.2) := (hp.d.mul hq.d).up (by decide)
  repeat' (first | exact n1 | exact n2 | exact (fun z : p.2 * q.2 = 0 => absurd pp (by omega)) | refine o_mul o1 ?_ | refine o_mul o2 ?_ | refine o_mul o3 ?_ | walk_at "yy")
  rfl
theorem ok_l_times (B : Bt mg) (D_l_fraction : Has P w K mg base 2 "_law_fraction" ["n", "d"] (spRed K)) (T : Stands K mg "_law_times" s_l_times ["one", "other"]) : Has P w K mg base 3 "_law_times" ["one", "other"] (SpQ K rTimes) := by
  refine hasQ T sc_l_times (fun ds po ⟨p, q, e, _⟩ => by rw [e]; rfl) 0 rfl fun f cdv A outer s H E g hr => ⟨_, (pss_one (ps_ret (peD D_l_fraction g hr (by first | decide | exact Nat.le_refl _ | omega) (by rfl) (pa_cons (pe_op op_mulA (pe_ix ix_tup (pv 0) pe_int (fun _ _ => rfl)) (pe_ix ix_tup (pv 1) pe_int (fun _ _ => rfl))) (pa_cons (pe_op op_mulA (pe_ix ix_tup (pv 0) pe_int (fun _ _ => rfl)) (pe_ix ix_tup (pv 1) pe_int (fun _ _ => rfl))) pa_nil))))), ?_⟩
  try dsimp only [cxOf]
  rintro ds po ⟨p, q, rfl, hp, hq, rfl⟩
  have o1 : IntMulOk p.1 q.1 := mk2 hp.n hq.n
  have o3 : IntMulOk p.2 q.2 := mk2 hp.d hq.d
  have pp := Int.mul_pos hp.fr.1 hq.fr.1
  have n1 : Bd 8000 (p.1 * q.1) := (hp.n.mul hq.n).up (by decide)
  have n2 : Bd 8000 (p.2 * q.2) := (hp.d.mul hq.d).up (by decide)
  repeat' (first | exact n1 | exact n2 | exact (fun z : p.2 * q.2 = 0 => absurd pp (by omega)) | refine o_mul o1 ?_ | refine o_mul o3 ?_ | walk_at "yy")
  rfl
theorem ok_l_is_less (B : Bt mg)  (T : Stands K mg "_law_is_less" s_l_is_less ["one", "other"]) : Has P w K mg base 1 "_law_is_less" ["one", "other"] (SpQ K rBelow) := by
  refine hasQ T sc_l_is_less (fun ds po ⟨p, q, e, _⟩ => by rw [e]; rfl) 0 rfl fun f cdv A outer s H E g hr => ⟨_, (pss_one (ps_ret (pe_cmpR op_lt (pe_op op_mulA (pe_ix ix_tup (pv 0) pe_int (fun _ _ => rfl)) (pe_ix ix_tup (pv 1) pe_int (fun _ _ => rfl))) (pe_op op_mulA (pe_ix ix_tup (pv 1) pe_int (fun _ _ => rfl)) (pe_ix ix_tup (pv 0) pe_int (fun _ _ => rfl))) (nomark _)))), ?_⟩
  try dsimp only [cxOf]
  rintro ds po ⟨p, q, rfl, hp, hq, rfl⟩
  have o1 : IntMulOk p.1 q.2 := mk2 hp.n hq.d
  have o2 : IntMulOk q.1 p.2 := mk2 hq.n hp.d
  repeat' (first | refine o_mul o1 ?_ | refine o_mul o2 ?_ | walk_at "yy")
  rfl
theorem ok_l_phi (B : Bt mg) (D_l_added : Has P w K mg base 3 "_law_added" ["one", "other"] (SpQ K rAdd)) (D_l_fraction : Has P w K mg base 2 "_law_fraction" ["n", "d"] (spRed K)) (D_l_times : Has P w K mg base 3 "_law_times" ["one", "other"] (SpQ K rTimes)) (T : Stands K mg "_law_phi" s_l_phi ["bounds", "t"]) : Has P w K mg base 4 "_law_phi" ["bounds", "t"] (SpQ K rPhi) := by
  refine hasQ T sc_l_phi (fun ds po ⟨c, D, S, lo, most, le, t, e, _⟩ => by rw [e]; rfl) 6 rfl fun f cdv A outer s H E g hr => ⟨_, (pss_cons (ps_asg (pv 0) (pg_tup rfl (pgs_cons (pg_name (i := 2) sc_l_phi.nd rfl (by first | exact .inl rfl | exact .inr rfl)) (pgs_cons (pg_name (i := 3) sc_l_phi.nd rfl (by first | exact .inl rfl | exact .inr rfl)) (pgs_cons (pg_name (i := 4) sc_l_phi.nd rfl (by first | exact .inl rfl | exact .inr rfl)) (pgs_cons (pg_name (i := 5) sc_l_phi.nd rfl (by first | exact .inl rfl | exact .inr rfl)) (pgs_cons (pg_name (i := 6) sc_l_phi.nd rfl (by first | exact .inl rfl | exact .inr rfl)) (pgs_cons (pg_name (i := 7) sc_l_phi.nd rfl (by first | exact .inl rfl | exact .inr rfl)) pgs_nil))))))))
      (pss_one (ps_ret (peD D_l_added g hr (by first | decide | exact Nat.le_refl _ | omega) (by rfl) (pa_cons (peD D_l_fraction g hr (by first | decide | exact Nat.le_refl _ | omega) (by rfl) (pa_cons (pe_op op_mulA pe_int (pe_ix ix_tup (pv 4) pe_int (fun _ _ => rfl))) (pa_cons (pe_op op_mulA (pe_ix ix_tup (pv 4) pe_int (fun _ _ => rfl)) (pv 1)) pa_nil))) (pa_cons (peD D_l_times g hr (by first | decide | exact Nat.le_refl _ | omega) (by rfl) (pa_cons (pv 3) (pa_cons (pe_tup (pa_cons (pe_op op_sub (pv 1) pe_int) (pa_cons pe_int pa_nil))) pa_nil))) pa_nil)))))), ?_⟩
  try dsimp only [cxOf]
  rintro ds po ⟨c, D, S, lo, most, le, t, rfl, hB, h1, h2, rfl⟩
  have s := hB.s
  have bt : Bd 10 t := by show _ < _; omega
  have o1 : IntMulOk S.2 t := Bd.ok s.d bt (by decide) (by decide) (by decide)
  have b4 : Bd 3 (4 : Int) := by show _ < _; decide
  have pp := Int.mul_pos s.fr.1 (show 0 < t by omega)
  have n1 : Bd 8000 (4 * S.1) := (b4.mul s.n).up (by decide)
  have n2 : Bd 8000 (S.2 * t) := (s.d.mul bt).up (by decide)
  have f1 : FqQ 20 (redN (4 * S.1) (S.2 * t), redD (4 * S.1) (S.2 * t)) := red_fq (by omega) ((b4.mul s.n).up (by decide)) ((s.d.mul bt).up (by decide))
  have bt1 : FqQ 10 (t - 1, (1 : Int)) := one_fq (by omega) (by omega)
  have f2 : FqQ 20 (qtimes D (t - 1, 1)) := qtimes_fq hB.d bt1
  repeat' (first | exact n1 | exact n2 | exact (fun z : S.2 * t = 0 => absurd pp (by omega)) | refine o_mul o1 ?_ | walk_at "yy")
  refine c_timesL (x := D) (y := (t - 1, 1)) (Fq.up hB.d (by decide)) (Fq.up bt1 (by decide)) ?_
  repeat' walk_at "yy"
  refine c_add (x := (redN (4 * S.1) (S.2 * t), redD (4 * S.1) (S.2 * t))) (Fq.up f1 (by decide)) (Fq.up f2 (by decide)) ?_
  repeat' walk_at "yy"
  rfl
theorem ok_l_least (B : Bt mg) (D_l_is_less : Has P w K mg base 1 "_law_is_less" ["one", "other"] (SpQ K rBelow)) (T : Stands K mg "_law_least" s_l_least ["some"]) : Has P w K mg base 2 "_law_least" ["some"] (SpQ K rLeastL) := by
  refine hasQ T sc_l_least (fun ds po ⟨qs, e, _⟩ => by rw [e]; rfl) 2 rfl fun f cdv A outer s H E g hr => ⟨_, (pss_cons (ps_set (i := 1) sc_l_least.nd rfl (by first | exact .inl rfl | exact .inr rfl) (pe_ix ix_list (pv 0) pe_int (fun _ _ => rfl)))
      (pss_cons (ps_for PassesOwn.never rfl (pi_list (pe_slice sl_list (pv 0) (po_some pe_int) po_none)) (pg_name (i := 2) sc_l_least.nd rfl (by first | exact .inl rfl | exact .inr rfl)) (pss_one (ps_set (i := 1) sc_l_least.nd rfl (by first | exact .inl rfl | exact .inr rfl) (pe_ifExp (pt_val (peD D_l_is_less g hr (by first | decide | exact Nat.le_refl _ | omega) (by rfl) (pa_cons (pv 2) (pa_cons (pv 1) pa_nil)))) (pv 2) (pv 1)))))
      (pss_one (ps_ret (pv 1))))), ?_⟩
  try dsimp only [cxOf]
  rintro ds po ⟨qs, rfl, hn, hl, hq, rfl⟩
  obtain ⟨q0, r, rfl⟩ := cons_of hn
  repeat' (first | refine o_ixL (atI_nat (j := 0) rfl) ?_ | walk_at "yy")
  refine sj_for ?_
  repeat' walk_at "yy"
  rw [cut1]
  refine ⟨fun k es M => ∃ q e2, es = [.dat (.list (frs (q0 :: r))), .dat (frq q), e2] ∧ q ∈ q0 :: r ∧ M = [], ⟨q0, .no, rfl, List.mem_cons_self .., rfl⟩, ?_, ?_⟩
  · rintro k d es M hd ⟨q, e2, rfl, hqm, rfl⟩
    obtain ⟨q1, _, hm1, rfl⟩ := frs_at (qs := r) hd
    have f1 := hq q hqm
    have f2 := hq q1 (List.mem_cons_of_mem _ hm1)
    repeat' (first | refine c_below f2 f1 ?_ | walk_at "yy")
    · exact ⟨List.mem_cons_of_mem _ hm1, rfl⟩
    · exact ⟨hqm, rfl⟩
  · rintro es M ⟨q, e2, rfl, hqm, rfl⟩
    repeat' walk_at "yy"
    exact ⟨q, hqm, rfl⟩
end
end K53

set_option Elab.async false
set_option linter.all false
set_option maxRecDepth 100000
set_option maxHeartbeats 1000000
set_option exponentiation.threshold 20000
namespace K53
open PySem PySem.Spec PyProof.Rows L2 Yw
local macro_rules | `(tactic| walk_at "ye") => `(tactic| first
  | ((with_reducible show Ev _ (tVar _) _ _ _); first | refine ev_dat rfl ?_ | refine ev_ref rfl ?_ | refine ev_var rfl (fun z => nomatch z) ?_)
  | ((with_reducible show Ev _ (tC _) _ _ _); first | with_reducible refine ev_int ?_ | with_reducible refine ev_bl ?_ | with_reducible refine ev_non ?_ | with_reducible refine ev_str ?_ | with_reducible refine ev_ty ?_)
  | with_reducible refine ev_op ?_
  | with_reducible refine ev_un ?_
  | with_reducible refine ev_go ?_
  | with_reducible refine ev_cb ?_
  | with_reducible refine ev_tupD ?_
  | with_reducible refine ev_lstD ?_
  | with_reducible refine ev_chain ?_
  | with_reducible refine ev_if ?_
  | with_reducible refine ev_andV ?_
  | with_reducible refine ev_orV ?_
  | with_reducible refine ev_notV ?_
  | with_reducible refine ev_sl ?_
  | with_reducible refine ev_bm ?_)
local macro_rules | `(tactic| walk_at "ya") => `(tactic| first
  | with_reducible refine ea_cons ?_
  | with_reducible refine ea_nil ?_
  | with_reducible refine eo_none ?_
  | with_reducible refine eo_some ?_
  | with_reducible refine et_test ?_
  | with_reducible refine et_B ?_
  | with_reducible refine et_and ?_
  | with_reducible refine et_or ?_
  | with_reducible refine et_not ?_
  | with_reducible refine et_yes ?_
  | with_reducible refine tg_name ?_
  | with_reducible refine tgs_nil ?_
  | with_reducible refine tgs_cons ?_
  | ((with_reducible show Tg _ (gTup _ _ _) _ _ _ _); refine tg_tup rfl ?_)
  | with_reducible refine tg_sub ?_)
local macro_rules | `(tactic| walk_at "ys") => `(tactic| first
  | with_reducible refine sj_seq ?_
  | with_reducible refine sj_next ?_
  | with_reducible refine sj_newD ?_
  | with_reducible refine sj_set ?_
  | with_reducible refine sj_par ?_
  | with_reducible refine sj_ret ?_
  | with_reducible refine sj_drop ?_
  | with_reducible refine sj_if ?_
  | with_reducible refine sj_asg ?_
  | with_reducible refine sj_augS ?_
  | with_reducible refine iw_seq ?_
  | with_reducible refine iw_zip ?_
  | with_reducible refine iw_list ?_
  | with_reducible refine iw_tup ?_
  | with_reducible refine iw_r1 ?_
  | with_reducible refine iw_r2 ?_
  | with_reducible refine iw_enumT ?_)
local macro_rules | `(tactic| walk_at "yo") => `(tactic| first
  | with_reducible refine o_int ?_
  | with_reducible refine o_bool ?_
  | with_reducible refine o_mul (by first | exact mulR ⟨by decide, by decide⟩ | exact mulL ⟨by decide, by decide⟩) ?_
  | with_reducible refine o_mul ?_ ?_
  | with_reducible refine o_mod (by decide) ?_
  | with_reducible refine o_mod ?_ ?_
  | with_reducible refine o_div (by decide) (by decide +kernel) ?_
  | with_reducible refine o_cat ?_ ?_
  | with_reducible refine o_catT ?_ ?_
  | ((with_reducible show Op2 _ (rIxL _) (Ent.ref _) _ _ _); refine o_ixM (List.Mem.head _) rfl ?_)
  | with_reducible refine o_eqI ?_
  | with_reducible refine o_neI ?_
  | with_reducible refine o_eqS ?_
  | with_reducible refine o_neS ?_
  | with_reducible refine o_neg ?_
  | ((with_reducible show Op2 _ (rIxT _) _ _ _ _); refine o_ixT rfl ?_)
  | ((with_reducible show Op2 _ (rIxL _) (Ent.dat _) _ _ _); refine o_ixL rfl ?_)
  | ((with_reducible show Op2 _ (rI CPow _) _ _ _ _); refine o_pow ⟨by decide, by decide, by decide⟩ rfl ?_)
  | with_reducible refine c_abs ?_
  | with_reducible refine c_int ?_
  | with_reducible refine c_min2 ?_
  | with_reducible refine c_max2 ?_
  | with_reducible refine c_gcd ?_
  | with_reducible refine sl_L ?_
  | with_reducible refine c_len (.lst _) ?_
  | with_reducible refine c_len (.tup _) ?_)
local macro_rules | `(tactic| walk_at "yx") => `(tactic| first
  | with_reducible refine ⟨_, rfl, ?_⟩
  | with_reducible refine ⟨_, _, rfl, ?_⟩
  | with_reducible refine ⟨fun _ => ?_, fun _ => ?_⟩
  | ((with_reducible show ∃ _ _ _ _ _ _, _ = _ ∧ _ = _ ∧ _ = _ ∧ _ = _ ∧ _); refine ⟨[], _, _, _, _, _, rfl, rfl, rfl, rfl, ?_⟩)
  | ((with_reducible show ∃ _ _ _ _ _, _ = _ ∧ _ = _ ∧ _ ∧ _ ∧ _ ∧ _ = _ ∧ _ = _ ∧ _); refine ⟨_, _, _, _, _, rfl, rfl, List.Mem.head _, by decide, by decide, rfl, rfl, ?_⟩)
  | ((with_reducible show ∃ _ _ _, _ = _ ∧ _ = _ ∧ _); refine ⟨[], _, _, rfl, rfl, ?_⟩)
  | ((with_reducible show ∃ _, Ds _ _ ∧ _ ∧ _); refine ⟨_, (by repeat (first | exact Ds.nil | apply Ds.cons)), (by simp), ?_⟩))
local macro_rules | `(tactic| walk_at "yy") => `(tactic| first | walk_at "ye" | walk_at "ya" | walk_at "ys" | walk_at "yo" | walk_at "yx" | walk_at "yc")

local macro_rules | `(tactic| walk_at "ys") => `(tactic| first | with_reducible refine sj_par3LD ?_)
local macro_rules | `(tactic| walk_at "yc") => `(tactic| first | with_reducible refine ev_dget ?_ | with_reducible refine ev_din ?_ | with_reducible refine ev_dnotin ?_ | with_reducible refine sj_dput ?_ | with_reducible refine ev_bm0 ?_)
/-! ### how long it may go on -/
theorem sum_lt {f g : Nat → Nat} : ∀ (n i : Nat), (∀ t, f t ≤ g t) → f i < g i → i < n → ((List.range n).map f).sum < ((List.range n).map g).sum
  | 0, i, _, _, h => by omega
  | n + 1, i, hle, hlt, h => by
    rw [List.range_succ, List.map_append, List.map_append, List.sum_append, List.sum_append]
    simp only [List.map_cons, List.map_nil, List.sum_cons, List.sum_nil, Nat.add_zero]
    have le : ∀ m, ((List.range m).map f).sum ≤ ((List.range m).map g).sum := fun m => by
      induction m with
      | zero => simp
      | succ m ih =>
        rw [List.range_succ, List.map_append, List.map_append, List.sum_append, List.sum_append]
        simp only [List.map_cons, List.map_nil, List.sum_cons, List.sum_nil, Nat.add_zero]
        have := hle m
        omega
    by_cases c : i = n
    · subst c
      have := le i
      omega
    · have := sum_lt n i hle hlt (by omega)
      have := hle n
      omega
theorem sum_le {f : Nat → Nat} {c : Nat} (h : ∀ t, f t ≤ c) : ∀ n, ((List.range n).map f).sum ≤ n * c
  | 0 => by simp
  | n + 1 => by
    rw [List.range_succ, List.map_append, List.sum_append]
    simp only [List.map_cons, List.map_nil, List.sum_cons, List.sum_nil, Nat.add_zero]
    have := sum_le h n
    have := h n
    rw [Nat.succ_mul]
    omega
/-- the values that there may be -/
def Val (D S : Int × Int) (q : Int × Int) : Prop := ∃ t : Nat, 1 ≤ t ∧ t < 60 ∧ q = ph D S (t : Int)
theorem Val.fq {D S : Int × Int} (h : Dq D S) {q : Int × Int} (v : Val D S q) : FqQ 100 q := by
  obtain ⟨t, a, b, rfl⟩ := v
  exact ph_fq h (by omega) (by omega)
def rank (D S : Int × Int) (q : Int × Int) : Nat := ((List.range 60).map fun (t : Nat) => if 1 ≤ t ∧ belowB q (ph D S (t : Int)) = true then 1 else 0).sum
theorem rank_le (D S q : Int × Int) : rank D S q ≤ 60 := by
  have := sum_le (f := fun (t : Nat) => if 1 ≤ t ∧ belowB q (ph D S (t : Int)) = true then 1 else 0) (c := 1) (fun t => by split <;> omega) 60
  unfold rank
  omega
theorem ph_pos {D S : Int × Int} (h : Dq D S) {t : Int} (ht : 1 ≤ t) : 0 < (ph D S t).2 := by
  have h0 := Int.mul_pos h.s.fr.1 (show (0 : Int) < t by omega)
  have h1 := redD_pos (n := 4 * S.1) (show S.2 * t ≠ 0 by omega)
  have h2 : 0 < (qtimes D (t - 1, 1)).2 := redD_pos (by have := h.d.fr.1; simp only; omega)
  have h3 := Int.mul_pos h1 h2
  show 0 < redD _ (redD (4 * S.1) (S.2 * t) * (qtimes D (t - 1, 1)).2)
  exact redD_pos (by omega)
theorem rank_lt {D S : Int × Int} (h : Dq D S) {p q : Int × Int} (hp : Val D S p) (hq : Val D S q) (b : belowB p q = true) : rank D S q < rank D S p := by
  have fp := (hp.fq h).fr.1
  have fq := (hq.fq h).fr.1
  obtain ⟨t, t1, t2, e⟩ := hq
  refine sum_lt 60 t (fun u => ?_) ?_ t2
  · by_cases c : 1 ≤ u ∧ belowB q (ph D S (u : Int)) = true
    · rw [if_pos c, if_pos ⟨c.1, below_tr fp fq (ph_pos h (by omega)) b c.2⟩]
      exact Nat.le_refl _
    · rw [if_neg c]
      exact Nat.zero_le _
  · rw [if_neg (fun c => by rw [← e, below_ir] at c; exact Bool.noConfusion c.2), if_pos ⟨t1, by rw [← e]; exact b⟩]
    exact Nat.lt_succ_self 0
/-- what stands in the table -/
def TbOk (D S : Int × Int) (kvs : KVs) : Prop := KeysIn 60 kvs ∧ ∀ k d, valD kvs k = some d → ∃ q, d = frq q ∧ Val D S q
def unQ : PyData → Int × Int
  | .tuple [.int a, .int b] => (a, b)
  | _ => (0, 1)
def wt (D S : Int × Int) (kvs : KVs) (t : Nat) : Nat := match valD kvs (.inl (t : Int)) with
  | none => 61
  | some d => rank D S (unQ d)
def wsum (D S : Int × Int) (kvs : KVs) : Nat := ((List.range 60).map (wt D S kvs)).sum
theorem TbOk.put {D S : Int × Int} {kvs : KVs} (h : TbOk D S kvs) {i : Nat} (hi : i < 60) {q : Int × Int} (hq : Val D S q) : TbOk D S (putD kvs (.inl (i : Int)) (frq q)) := by
  refine ⟨h.1.put hi _, fun k d hd => ?_⟩
  rw [valD_put] at hd
  split at hd
  · cases hd
    exact ⟨q, rfl, hq⟩
  · exact h.2 k d hd
theorem wsum_put {D S : Int × Int} {kvs : KVs} (hB : Dq D S) {i : Nat} (hi : i < 60) {q : Int × Int} (hq : Val D S q) (hn : valD kvs (.inl (i : Int)) = none ∨ ∃ p, valD kvs (.inl (i : Int)) = some (frq p) ∧ Val D S p ∧ belowB p q = true) : wsum D S (putD kvs (.inl (i : Int)) (frq q)) < wsum D S kvs := by
  have hw : ∀ t : Nat, wt D S (putD kvs (.inl (i : Int)) (frq q)) t = if t = i then rank D S q else wt D S kvs t := fun t => by
    unfold wt
    rw [valD_put]
    by_cases e : t = i
    · subst e
      rw [if_pos rfl, if_pos rfl]
      rfl
    · rw [if_neg e, if_neg (fun z => e (by have := Sum.inl.inj z; omega))]
  have hlt : rank D S q < wt D S kvs i := by
    unfold wt
    rcases hn with hn | ⟨p, hn, hp, hb⟩
    · rw [hn]
      have := rank_le D S q
      show _ < 61
      omega
    · rw [hn]
      exact rank_lt hB hp hq hb
  refine sum_lt 60 i (fun t => ?_) ?_ hi
  · rw [hw]
    by_cases e : t = i
    · subst e
      rw [if_pos rfl]
      exact Nat.le_of_lt hlt
    · rw [if_neg e]
      exact Nat.le_refl _
  · rw [hw, if_pos rfl]
    exact hlt
/-- what is on the line -/
def lnD (x : Nat × Option (Int × Int)) : PyData := .tuple [.int (x.1 : Int), optQ x.2]
def LnOk (D S : Int × Int) (x : Nat × Option (Int × Int)) : Prop := x.1 < 60 ∧ ∀ q, x.2 = some q → Val D S q
theorem wsum_le (D S : Int × Int) (kvs : KVs) : wsum D S kvs ≤ 3660 := by
  have := sum_le (f := wt D S kvs) (c := 61) (fun t => by
    unfold wt
    split
    · exact Nat.le_refl _
    · have := rank_le D S (unQ ‹_›)
      omega) 60
  unfold wsum
  omega
theorem ln_shaped {D S : Int × Int} (h : Dq D S) {L : List (Nat × Option (Int × Int))} (hL : ∀ x ∈ L, LnOk D S x) (hl : L.length ≤ 8000) : SeqAt.shaped (.list (L.map lnD)) = true := by
  refine (Wt.list (n := 8000) (w := 2 * (3849 + 2) + 3) (dp := 2) (fun d hd => ?_) (by rw [List.length_map]; exact hl)).shaped (by decide)
  obtain ⟨x, hx, rfl⟩ := List.mem_map.mp hd
  obtain ⟨h1, h2⟩ := hL x hx
  refine Wt.tup (n := 2) (w := 3849) (dp := 1) (fun d hd => ?_) (by simp)
  simp only [List.mem_cons, List.not_mem_nil, or_false] at hd
  rcases hd with rfl | rfl
  · exact (Wt.intK (k := 10) (by decide) (by decide) (show ((x.1 : Nat) : Int).natAbs < 2 ^ 10 by omega)).up (by decide) (by decide)
  · cases hx2 : x.2 with
    | none => exact Wt.non.up (by decide) (by decide)
    | some q => exact wt_fr (Fq.up ((h2 q hx2).fq h) (by decide))
theorem st_put {D S : Int × Int} (hB : Dq D S) {x : Int} {i : Nat} (ex : x = (i : Int)) (hi : i < 60) {L : List (Nat × Option (Int × Int))} {kvs : KVs} {N : Nat} (hL : ∀ y ∈ L, LnOk D S y) (hk : TbOk D S kvs) (hN : 2 * wsum D S kvs + L.length + 1 ≤ N) {q : Int × Int} (hq : Val D S q)
    (hn : valD kvs (.inl x) = none ∨ ∃ p, valD kvs (.inl x) = some (frq p) ∧ Val D S p ∧ belowB p q = true) :
    ∃ L3 : List (Nat × Option (Int × Int)), ∃ kvs3 : KVs, L.map lnD ++ [.tuple [.int x, frq q]] = L3.map lnD ∧ putD kvs (.inl x) (frq q) = kvs3 ∧ (∀ y ∈ L3, LnOk D S y) ∧ TbOk D S kvs3 ∧ 2 * wsum D S kvs3 + L3.length + 1 ≤ N := by
  subst ex
  refine ⟨L ++ [(i, some q)], _, by rw [List.map_append]; rfl, rfl, fun y hy => ?_, hk.put hi hq, ?_⟩
  · rcases List.mem_append.mp hy with hy | hy
    · exact hL y hy
    · rw [List.mem_singleton.mp hy]
      exact ⟨hi, fun z e => by cases e; exact hq⟩
  · have := wsum_put hB hi hq hn
    rw [List.length_append, List.length_singleton]
    omega
def rPull : RR := fun ds po => ∃ c D S lo most le, ds = [bdQ c D S lo most le] ∧ Dq D S ∧ 1 ≤ lo ∧ lo ≤ most ∧ most ≤ 8 ∧ 1 ≤ le ∧ le ≤ 8 ∧ po = fun r => ∃ q, r = frq q ∧ FqQ 100 q
section
variable {P : Program} {w : World} {K : PySem.W.Frag} {mg : Str → Option Value} {base : Heap}
set_option maxHeartbeats 4000000 in
theorem ok_l_pull (B : Bt mg) (D_l_least : Has P w K mg base 2 "_law_least" ["some"] (SpQ K rLeastL)) (D_l_phi : Has P w K mg base 4 "_law_phi" ["bounds", "t"] (SpQ K rPhi)) (D_l_is_less : Has P w K mg base 1 "_law_is_less" ["one", "other"] (SpQ K rBelow)) (T : Stands K mg "_law_pull" s_l_pull ["bounds"]) : Has P w K mg base 5 "_law_pull" ["bounds"] (SpQ K rPull) := by
  refine hasQ T sc_l_pull (fun ds po ⟨c, D, S, lo, most, le, e, _⟩ => by rw [e]; rfl) 17 rfl fun f cdv A outer s H E g hr => ⟨_, (pss_cons (ps_asg (pv 0) (pg_tup rfl (pgs_cons (pg_name (i := 1) sc_l_pull.nd rfl (by first | exact .inl rfl | exact .inr rfl)) (pgs_cons (pg_name (i := 2) sc_l_pull.nd rfl (by first | exact .inl rfl | exact .inr rfl)) (pgs_cons (pg_name (i := 3) sc_l_pull.nd rfl (by first | exact .inl rfl | exact .inr rfl)) (pgs_cons (pg_name (i := 4) sc_l_pull.nd rfl (by first | exact .inl rfl | exact .inr rfl)) (pgs_cons (pg_name (i := 5) sc_l_pull.nd rfl (by first | exact .inl rfl | exact .inr rfl)) (pgs_cons (pg_name (i := 6) sc_l_pull.nd rfl (by first | exact .inl rfl | exact .inr rfl)) pgs_nil))))))))
      (pss_cons (ps_par3 (i := 7) (j := 8) (l := 9) (by rfl) sc_l_pull.nd rfl rfl rfl (by decide) (by decide) (by decide) rfl rfl rfl (pa_cons pe_non (pa_cons (pe_lst (pa_cons (pe_tup (pa_cons pe_int (pa_cons pe_non pa_nil))) pa_nil)) (pa_cons pe_dnewK pa_nil))) (by rfl))
      (pss_cons (ps_while PassesOwn.never (pt_cmpR (op_neD hr.units) (pv 8) (pe_lst pa_nil) (nomark _)) (pss_cons (ps_asg (pe_bm0 PySem.F.plainAttrs_list PySem.F.slot_list_pop PySem.F.type_list_pop mt_pop (pv 8)) (pg_tup rfl (pgs_cons (pg_name (i := 10) sc_l_pull.nd rfl (by first | exact .inl rfl | exact .inr rfl)) (pgs_cons (pg_name (i := 11) sc_l_pull.nd rfl (by first | exact .inl rfl | exact .inr rfl)) pgs_nil))))
      (pss_cons (ps_set (i := 12) sc_l_pull.nd rfl (by first | exact .inl rfl | exact .inr rfl) (pe_op op_cat (pe_lc (own := [("k", 17)]) (g := gName 17) (tt := tYes) rfl sc_l_pull.nd (pi_range1 (by rfl) B.b_range (pa_cons (pv 6) pa_nil)) (blkOk_by (N := N_l_pull) (sc := defScope s_l_pull) (by decide +kernel)) (fun _ _ _ _ _ => (pg_name (i := 17) sc_l_pull.nd rfl (by first | exact .inl rfl | exact .inr rfl))) (fun _ _ _ _ _ => pts_nil) (fun _ _ _ _ _ => (peD D_l_phi g hr (by first | decide | exact Nat.le_refl _ | omega) (by rfl) (pa_cons (pv 0) (pa_cons (pe_op op_add (pv 10) (pe_op op_mulA (pv 5) (pe_op op_add (pv 17) pe_int))) pa_nil))))) (pe_ifExp (pt_cmpR op_notN (pv 11) pe_non (nomark _)) (pe_lst (pa_cons (pv 11) pa_nil)) (pe_lst pa_nil))))
      (pss_cons (ps_set (i := 13) sc_l_pull.nd rfl (by first | exact .inl rfl | exact .inr rfl) (peD D_l_least g hr (by first | decide | exact Nat.le_refl _ | omega) (by rfl) (pa_cons (pv 12) pa_nil)))
      (pss_cons (ps_set (i := 7) sc_l_pull.nd rfl (by first | exact .inl rfl | exact .inr rfl) (pe_ifExp (PW.pt (pw_or (pt_cmpR op_isN (pv 7) pe_non (nomark _)) (pw_or1 (pt_val (peD D_l_is_less g hr (by first | decide | exact Nat.le_refl _ | omega) (by rfl) (pa_cons (pv 7) (pa_cons (pv 13) pa_nil))))))) (pv 13) (pv 7)))
      (pss_one (ps_for PassesOwn.never rfl (pi_list (pe_ifExp (pt_cmpR op_lt (pv 10) pe_int (nomark _)) (pe_listRg rfl (by rfl) B.b_list (prg_2 (by rfl) B.b_range (pv 4) (pe_op op_add (pv 5) pe_int))) (pe_lst pa_nil))) (pg_name (i := 14) sc_l_pull.nd rfl (by first | exact .inl rfl | exact .inr rfl)) (pss_cons (ps_set (i := 15) sc_l_pull.nd rfl (by first | exact .inl rfl | exact .inr rfl) (peD D_l_phi g hr (by first | decide | exact Nat.le_refl _ | omega) (by rfl) (pa_cons (pv 0) (pa_cons (pe_op op_add (pv 10) (pv 14)) pa_nil))))
      (pss_cons (ps_set (i := 16) sc_l_pull.nd rfl (by first | exact .inl rfl | exact .inr rfl) (pe_ifExp (PW.pt (pw_or (pt_cmpR op_isN (pv 11) pe_non (nomark _)) (pw_or1 (pt_val (peD D_l_is_less g hr (by first | decide | exact Nat.le_refl _ | omega) (by rfl) (pa_cons (pv 15) (pa_cons (pv 11) pa_nil))))))) (pv 15) (pv 11)))
      (pss_one (ps_if (PW.pt (pw_or (pt_cmp (pc_dnotin (Nat.lt_of_le_of_lt (Nat.add_le_add_left (by decide) _) (room66 hr)) (pe_op op_add (pv 10) (pv 14)) (pv 9))) (pw_or1 (pt_val (peD D_l_is_less g hr (by first | decide | exact Nat.le_refl _ | omega) (by rfl) (pa_cons (pe_dget (Nat.lt_of_le_of_lt (Nat.add_le_add_left (by decide) _) (room66 hr)) (pv 9) (pe_op op_add (pv 10) (pv 14)) (fun _ _ => rfl)) (pa_cons (pv 16) pa_nil))))))) (pss_cons (ps_dput (Nat.lt_of_le_of_lt (Nat.add_le_add_left (by decide) _) (room66 hr)) (pv 9) (pe_op op_add (pv 10) (pv 14)) (pv 16) rfl)
      (pss_one (ps_expr (pe_bm PySem.F.plainAttrs_list PySem.F.slot_list_append PySem.F.type_list_append mt_append (pv 8) (pa_cons (pe_tup (pa_cons (pe_op op_add (pv 10) (pv 14)) (pa_cons (pv 16) pa_nil))) pa_nil))))) pss_nil)))))))))))
      (pss_one (ps_ret (pv 7)))))), ?_⟩
  try dsimp only [cxOf]
  rintro ds po ⟨c, D, S, lo, most, le, rfl, hB, l1, l2, l3, e1, e8, rfl⟩
  repeat' walk_at "yy"
  intro p hp q hq
  repeat' walk_at "yy"
  refine sj_while (fun m es M => ∃ (o : Option (Int × Int)) (L : List (Nat × Option (Int × Int))) (kvs : KVs) (e10 e11 e12 e13 e14 e15 e16 e17 : Ent), m = 2 * wsum D S kvs + L.length ∧ (o = none → L ≠ []) ∧ (∀ q, o = some q → FqQ 100 q) ∧ (∀ x ∈ L, LnOk D S x) ∧ TbOk D S kvs ∧ 2 * wsum D S kvs + L.length ≤ 7400 ∧ es = [.dat (bdQ c D S lo most le), .dat (.int c), .dat (frq D), .dat (frq S), .dat (.int (lo : Int)), .dat (.int (most : Int)), .dat (.int (le : Int)), .dat (optQ o), .ref p, .ref q, e10, e11, e12, e13, e14, e15, e16, e17] ∧ M = [(p, .lst (L.map lnD)), (q, .dct kvs)]) (2 * wsum D S [] + 1) ⟨none, [(0, none)], [], .no, .no, .no, .no, .no, .no, .no, .no, rfl, (fun _ => List.cons_ne_nil _ _), (fun q h => by cases h), (fun x hx => by rw [List.mem_singleton.mp hx]; exact ⟨by decide, fun q h => by cases h⟩), ⟨⟨[], rfl, List.nodup_nil, fun x hx => by cases hx⟩, fun k d h => by cases h⟩, (by have := wsum_le D S []; simp only [List.length_singleton]; omega), rfl, rfl⟩ ?_
  rintro m es M ⟨o, L, kvs, e10, e11, e12, e13, e14, e15, e16, e17, rfl, ho, hof, hL, hk, hw, rfl, rfl⟩
  refine et_lend (List.Mem.head _) (.keep (.keep (.keep (.keep (.keep (.keep (.keep (.keep (.hit (.keep (.keep (.keep (.keep (.keep (.keep (.keep (.keep (.keep .nil)))))))))))))))))) ?_
  repeat' walk_at "yy"
  refine o_neD (ln_shaped hB hL (by omega)) shaped_nil ?_
  rw [eqv_nil]
  rcases List.eq_nil_or_concat L with rfl | ⟨L', ⟨a, ls⟩, rfl⟩
  · repeat' walk_at "yy"
    · exact absurd ‹(!decide (([] : List (Nat × Option (Int × Int))).map lnD = [])) = true› (by simp)
    · cases o with
      | none => exact absurd rfl (ho rfl)
      | some q0 => exact ⟨q0, rfl, hof q0 rfl⟩
  · rw [List.concat_eq_append] at hL hw ho ⊢
    obtain ⟨ha, hls⟩ := hL (a, ls) (by simp)
    have hL' : ∀ x ∈ L', LnOk D S x := fun x hx => hL x (List.mem_append_left _ hx)
    rw [List.length_append, List.length_singleton] at hw ⊢
    have cm : ∀ k : Nat, k < le → IntMulOk (most : Int) ((k : Int) + 1) := fun k hk => mulL (by omega)
    repeat' walk_at "yy"
    · refine ⟨ty_ref (List.Mem.head _), m_pop (Ma := []) (Mb := [(q, .dct kvs)]) (d := lnD (a, ls)) (ds := L'.map lnD) (by rw [List.map_append]; rfl) ?_⟩
      rw [show lnD (a, ls) = .tuple [.int (a : Int), optQ ls] from rfl]
      repeat' walk_at "yy"
      refine ev_lc (own_name (by decide)) ?_
      repeat' walk_at "yy"
      refine ⟨by omega, ?_⟩
      rw [show ((le : Int)).toNat = le from rfl]
      refine ⟨fun k acc M => ∃ qs : List (Int × Int), acc = frs qs ∧ qs.length = k ∧ (∀ q ∈ qs, FqQ 100 q) ∧ M = [] ++ (p, .lst (L'.map lnD)) :: [(q, .dct kvs)], ⟨[], rfl, rfl, (fun q h => by cases h), rfl⟩, fun k d acc M hd e => ?_, fun acc M e => ?_⟩
      · obtain ⟨qs, rfl, hql, hqf, rfl⟩ := e
        obtain ⟨hkk, rfl⟩ := rgD_at hd
        refine ⟨by rw [frs_len]; omega, ?_⟩
        have hm : (most : Int) * ((0 : Int) + (k : Int) + 1) = ((most * (k + 1) : Nat) : Int) := by rw [Int.natCast_mul, show (0 : Int) + (k : Int) + 1 = ((k + 1 : Nat) : Int) by omega]
        have h1 : 1 ≤ most * (k + 1) := Nat.mul_pos (by omega) (by omega)
        have h2 : most * (k + 1) ≤ 8 * 8 := Nat.mul_le_mul l3 (by omega)
        have ok : IntMulOk (most : Int) ((0 : Int) + (k : Int) + 1) := mulL (by omega)
        repeat' (first | exact absurd ‹true = false› (by decide) | refine o_mul ok ?_ | refine c_phi hB (by omega) (by omega) ?_ | walk_at "yy")
        refine ⟨qs ++ [ph D S ((a : Int) + (most : Int) * ((0 : Int) + (k : Int) + 1))], by rw [frs_app]; rfl, by simp [hql], fun x hx => ?_, rfl⟩
        rcases List.mem_append.mp hx with hx | hx
        · exact hqf x hx
        · rw [List.mem_singleton.mp hx]
          exact ph_fq hB (by omega) (by omega)
      · obtain ⟨qs, rfl, hql, hqf, rfl⟩ := e
        rw [rgD_len] at hql
        have lq : (frs qs).length ≤ 8 := by rw [frs_len]; omega
        have q0 : qs ≠ [] := fun z => by rw [z] at hql; simp at hql; omega
        obtain ⟨es0, hes, hef, hel2, hel3⟩ : ∃ es0 : List (Int × Int), frs es0 = frs qs ++ (if isNone (optQ ls) = true then [] else [optQ ls]) ∧ es0 ≠ [] ∧ (∀ q ∈ es0, FqQ 100 q) ∧ es0.length ≤ 100 := by
          cases ls with
          | none => exact ⟨qs, by simp [optQ, isNone], q0, hqf, by omega⟩
          | some l0 =>
            refine ⟨qs ++ [l0], by rw [frs_app]; rfl, by simp, fun x hx => ?_, by simp; omega⟩
            rcases List.mem_append.mp hx with hx | hx
            · exact hqf x hx
            · rw [List.mem_singleton.mp hx]
              exact (hls l0 rfl).fq hB
        have hlo : ∀ l0, ls = some l0 → FqQ 100 l0 := fun l0 e => (hls l0 e).fq hB
        repeat' (first | refine o_notN2 ?_ | walk_at "yy")
        all_goals first | (simp only [List.length_nil, List.length_singleton]; omega) | skip
        all_goals
          refine c_Q (.cons .nil) _ ⟨es0, by rw [hes]; cases hh : isNone (optQ ls) <;> simp_all, hef, hel3, fun q hq => Fq.up (hel2 q hq) (by decide), rfl⟩ fun z ⟨f0, hfm, hz⟩ => ?_
          subst hz
          have hff := hel2 f0 hfm
          rcases o with _ | b0
        all_goals
          repeat' (first | refine o_isN2 ?_ | exact absurd ‹isNone .none = false› (by decide) | exact absurd ‹isNone (frq b0) = true› (by simp [isNone]) | refine c_below (Fq.up (hof _ rfl) (by decide)) (Fq.up hff (by decide)) ?_ | walk_at "yy")
        all_goals
          refine sj_for ?_
          repeat' (first | (refine ev_listRg2 ?_) | (refine ⟨_, _, rfl, rfl, RgOk.of_le (by omega) (by omega) (by omega) (by omega), ?_⟩; refine ⟨_, rfl, ?_⟩) | walk_at "yy")
        all_goals
          refine ⟨fun k es M => ∃ (L2 : List (Nat × Option (Int × Int))) (kvs2 : KVs) (nb : Int × Int) (e12 e13 e14 e15 e16 e17 : Ent), es = [.dat (bdQ c D S lo most le), .dat (.int c), .dat (frq D), .dat (frq S), .dat (.int (lo : Int)), .dat (.int (most : Int)), .dat (.int (le : Int)), .dat (optQ (some nb)), .ref p, .ref q, .dat (.int (a : Int)), .dat (optQ ls), e12, e13, e14, e15, e16, e17] ∧ FqQ 100 nb ∧ (∀ x ∈ L2, LnOk D S x) ∧ TbOk D S kvs2 ∧ 2 * wsum D S kvs2 + L2.length + 1 ≤ 2 * wsum D S kvs + (L'.length + 1) ∧ M = [(p, .lst (L2.map lnD)), (q, .dct kvs2)], ?_, ?_, ?_⟩
        all_goals first | (refine ⟨L', kvs, _, _, _, _, _, _, _, rfl, ?_, hL', hk, by omega, rfl⟩; first | exact hff | exact hof _ rfl) | skip
        all_goals first | (rintro es M ⟨L2, kvs2, nb, e12, e13, e14, e15, e16, e17, rfl, hnb, hL2, hk2, hw2, rfl⟩; exact ⟨_, by omega, some nb, L2, kvs2, _, _, _, _, _, _, _, _, rfl, (fun z => by cases z), (fun z e => by cases e; exact hnb), hL2, hk2, by omega, rfl, rfl⟩) | skip
        all_goals first | (intro k d es M hd; rw [List.getElem?_nil] at hd; cases hd; done) | skip
        all_goals
          rintro k d es M hd ⟨L2, kvs2, nb, e12, e13, e14, e15, e16, e17, rfl, hnb, hL2, hk2, hw2, rfl⟩
          obtain ⟨hkk, rfl⟩ := rgD_at hd
          have a40 : (a : Int) < 40 := of_decide_eq_true ‹decide ((a : Int) < 40) = true›
          have et : (a : Int) + ((lo : Int) + (k : Int)) = ((a + lo + k : Nat) : Int) := by omega
          have t1 : 1 ≤ a + lo + k := by omega
          have t2 : a + lo + k < 60 := by omega
          have hv : Val D S (ph D S ((a : Int) + ((lo : Int) + (k : Int)))) := ⟨a + lo + k, t1, t2, by rw [et]⟩
          have hvf := hv.fq hB
          rcases ls with _ | l0
        all_goals first | (exact absurd ‹(!isNone (optQ none)) = true› (by decide); done) | (exact absurd ‹(!isNone (optQ (some l0))) = false› (by simp [isNone, optQ]); done) | skip
        all_goals
          rcases hvd : valD kvs2 (.inl ((a : Int) + ((lo : Int) + (k : Int)))) with _ | dd
        all_goals first | (obtain ⟨qq, rfl, hqq⟩ := hk2.2 _ _ hvd; have hqf := hqq.fq hB) | skip
        all_goals
          repeat' (first | refine o_isN2 ?_ | exact absurd ‹isNone .none = false› (by decide) | exact absurd ‹isNone (frq l0) = true› (by simp [isNone]) | refine c_phi hB (by omega) (by omega) ?_ | refine c_below (Fq.up hvf (by decide)) (Fq.up (hlo l0 rfl) (by decide)) ?_ | refine c_below (Fq.up hqf (by decide)) (Fq.up hvf (by decide)) ?_ | refine c_below (Fq.up hqf (by decide)) (Fq.up (hlo l0 rfl) (by decide)) ?_ | (refine ⟨q, kvs2, _, rfl, rfl, List.Mem.tail _ (List.Mem.head _), ?_⟩; rw [hvd]) | exact absurd ‹(!(none : Option PyData).isSome) = false› (by decide) | exact absurd ‹(!(some (frq qq)).isSome) = true› (by simp) | refine ⟨q, kvs2, _, frq qq, rfl, rfl, List.Mem.tail _ (List.Mem.head _), hvd, ?_⟩ | refine ⟨[(p, _)], [], q, kvs2, _, _, rfl, rfl, rfl, rfl, Nat.le_trans hk2.1.len (by decide), ?_⟩ | refine ⟨ty_ref (List.Mem.head _), ?_⟩ | refine m_append (Ma := []) (Mb := [(q, _)]) rfl (by rw [List.length_map]; omega) ?_ | walk_at "yy")
        all_goals
          first
          | (have hn := st_put hB et t2 hL2 hk2 hw2 hv (.inl hvd); obtain ⟨L3, kvs3, eL, ek, hL3, hk3, hw3⟩ := hn; subst ek; refine ⟨L3, _, nb, _, _, _, _, _, _, rfl, hnb, hL3, hk3, hw3, ?_⟩; rw [← eL]; done)
          | (have hn := st_put hB et t2 hL2 hk2 hw2 hv (.inl hvd); obtain ⟨L3, kvs3, eL, ek, hL3, hk3, hw3⟩ := hn; subst ek; refine ⟨L3, _, nb, _, _, _, _, _, _, rfl, hnb, hL3, hk3, hw3, ?_⟩; rw [← eL]; rfl)
          | (have hn := st_put hB et t2 hL2 hk2 hw2 (hls l0 rfl) (.inl hvd); obtain ⟨L3, kvs3, eL, ek, hL3, hk3, hw3⟩ := hn; subst ek; refine ⟨L3, _, nb, _, _, _, _, _, _, rfl, hnb, hL3, hk3, hw3, ?_⟩; rw [← eL]; rfl)
          | (have hn := st_put hB et t2 hL2 hk2 hw2 hv (.inr ⟨qq, hvd, hqq, ‹belowB qq (ph D S ((a : Int) + ((lo : Int) + (k : Int)))) = true›⟩); obtain ⟨L3, kvs3, eL, ek, hL3, hk3, hw3⟩ := hn; subst ek; refine ⟨L3, _, nb, _, _, _, _, _, _, rfl, hnb, hL3, hk3, hw3, ?_⟩; rw [← eL]; rfl)
          | (have hn := st_put hB et t2 hL2 hk2 hw2 (hls l0 rfl) (.inr ⟨qq, hvd, hqq, ‹belowB qq l0 = true›⟩); obtain ⟨L3, kvs3, eL, ek, hL3, hk3, hw3⟩ := hn; subst ek; refine ⟨L3, _, nb, _, _, _, _, _, _, rfl, hnb, hL3, hk3, hw3, ?_⟩; rw [← eL]; rfl)
          | (refine ⟨L2, kvs2, nb, _, _, _, _, _, _, rfl, hnb, hL2, hk2, hw2, ?_⟩; rfl)
          | skip
    · exact absurd ‹(!decide ((L' ++ [(a, ls)]).map lnD = [])) = false› (by simp)
end
end K53

set_option Elab.async false
set_option linter.all false
set_option maxRecDepth 100000
set_option maxHeartbeats 1000000
set_option exponentiation.threshold 20000
namespace K53
open PySem PySem.Spec PyProof.Rows L2 Yw
local macro_rules | `(tactic| walk_at "ye") => `(tactic| first
  | ((with_reducible show Ev _ (tVar _) _ _ _); first | refine ev_dat rfl ?_ | refine ev_ref rfl ?_ | refine ev_var rfl (fun z => nomatch z) ?_)
  | ((with_reducible show Ev _ (tC _) _ _ _); first | with_reducible refine ev_int ?_ | with_reducible refine ev_bl ?_ | with_reducible refine ev_non ?_ | with_reducible refine ev_str ?_ | with_reducible refine ev_ty ?_)
  | with_reducible refine ev_op ?_
  | with_reducible refine ev_un ?_
  | with_reducible refine ev_go ?_
  | with_reducible refine ev_cb ?_
  | with_reducible refine ev_tupD ?_
  | with_reducible refine ev_lstD ?_
  | with_reducible refine ev_chain ?_
  | with_reducible refine ev_if ?_
  | with_reducible refine ev_andV ?_
  | with_reducible refine ev_orV ?_
  | with_reducible refine ev_notV ?_
  | with_reducible refine ev_sl ?_
  | with_reducible refine ev_bm ?_)
local macro_rules | `(tactic| walk_at "ya") => `(tactic| first
  | with_reducible refine ea_cons ?_
  | with_reducible refine ea_nil ?_
  | with_reducible refine eo_none ?_
  | with_reducible refine eo_some ?_
  | with_reducible refine et_test ?_
  | with_reducible refine et_B ?_
  | with_reducible refine et_and ?_
  | with_reducible refine et_or ?_
  | with_reducible refine et_not ?_
  | with_reducible refine et_yes ?_
  | with_reducible refine tg_name ?_
  | with_reducible refine tgs_nil ?_
  | with_reducible refine tgs_cons ?_
  | ((with_reducible show Tg _ (gTup _ _ _) _ _ _ _); refine tg_tup rfl ?_)
  | with_reducible refine tg_sub ?_)
local macro_rules | `(tactic| walk_at "ys") => `(tactic| first
  | with_reducible refine sj_seq ?_
  | with_reducible refine sj_next ?_
  | with_reducible refine sj_newD ?_
  | with_reducible refine sj_set ?_
  | with_reducible refine sj_par ?_
  | with_reducible refine sj_ret ?_
  | with_reducible refine sj_drop ?_
  | with_reducible refine sj_if ?_
  | with_reducible refine sj_asg ?_
  | with_reducible refine sj_augS ?_
  | with_reducible refine iw_seq ?_
  | with_reducible refine iw_zip ?_
  | with_reducible refine iw_list ?_
  | with_reducible refine iw_tup ?_
  | with_reducible refine iw_r1 ?_
  | with_reducible refine iw_r2 ?_
  | with_reducible refine iw_enumT ?_)
local macro_rules | `(tactic| walk_at "yo") => `(tactic| first
  | with_reducible refine o_int ?_
  | with_reducible refine o_bool ?_
  | with_reducible refine o_mul (by first | exact mulR ⟨by decide, by decide⟩ | exact mulL ⟨by decide, by decide⟩) ?_
  | with_reducible refine o_mul ?_ ?_
  | with_reducible refine o_mod (by decide) ?_
  | with_reducible refine o_mod ?_ ?_
  | with_reducible refine o_div (by decide) (by decide +kernel) ?_
  | with_reducible refine o_cat ?_ ?_
  | with_reducible refine o_catT ?_ ?_
  | ((with_reducible show Op2 _ (rIxL _) (Ent.ref _) _ _ _); refine o_ixM (List.Mem.head _) rfl ?_)
  | with_reducible refine o_eqI ?_
  | with_reducible refine o_neI ?_
  | with_reducible refine o_eqS ?_
  | with_reducible refine o_neS ?_
  | with_reducible refine o_neg ?_
  | ((with_reducible show Op2 _ (rIxT _) _ _ _ _); refine o_ixT rfl ?_)
  | ((with_reducible show Op2 _ (rIxL _) (Ent.dat _) _ _ _); refine o_ixL rfl ?_)
  | ((with_reducible show Op2 _ (rI CPow _) _ _ _ _); refine o_pow ⟨by decide, by decide, by decide⟩ rfl ?_)
  | with_reducible refine c_abs ?_
  | with_reducible refine c_int ?_
  | with_reducible refine c_min2 ?_
  | with_reducible refine c_max2 ?_
  | with_reducible refine c_gcd ?_
  | with_reducible refine sl_L ?_
  | with_reducible refine c_len (.lst _) ?_
  | with_reducible refine c_len (.tup _) ?_)
local macro_rules | `(tactic| walk_at "yx") => `(tactic| first
  | with_reducible refine ⟨_, rfl, ?_⟩
  | with_reducible refine ⟨_, _, rfl, ?_⟩
  | with_reducible refine ⟨fun _ => ?_, fun _ => ?_⟩
  | ((with_reducible show ∃ _ _ _ _ _ _, _ = _ ∧ _ = _ ∧ _ = _ ∧ _ = _ ∧ _); refine ⟨[], _, _, _, _, _, rfl, rfl, rfl, rfl, ?_⟩)
  | ((with_reducible show ∃ _ _ _ _ _, _ = _ ∧ _ = _ ∧ _ ∧ _ ∧ _ ∧ _ = _ ∧ _ = _ ∧ _); refine ⟨_, _, _, _, _, rfl, rfl, List.Mem.head _, by decide, by decide, rfl, rfl, ?_⟩)
  | ((with_reducible show ∃ _ _ _, _ = _ ∧ _ = _ ∧ _); refine ⟨[], _, _, rfl, rfl, ?_⟩)
  | ((with_reducible show ∃ _, Ds _ _ ∧ _ ∧ _); refine ⟨_, (by repeat (first | exact Ds.nil | apply Ds.cons)), (by simp), ?_⟩))
local macro_rules | `(tactic| walk_at "yy") => `(tactic| first | walk_at "ye" | walk_at "ya" | walk_at "ys" | walk_at "yo" | walk_at "yx" | walk_at "yc")

/-! ### what a watchful bound needs -/
structure BdOk (D S : Int × Int) (lo most le : Nat) : Prop where
  q : Dq D S
  l1 : 1 ≤ lo
  l2 : lo ≤ most
  l3 : most ≤ 8
  e1 : 1 ≤ le
  e8 : le ≤ 8
def rNeeded : RR := fun ds po => ∃ c D S lo most le, ∃ run : Int, ds = [bdQ c D S lo most le, .int run] ∧ BdOk D S lo most le ∧ 0 ≤ run ∧ run ≤ 20 ∧ po = fun r => ∃ q, r = frq q ∧ FqQ 400 q
def rWatch : RR := fun ds po => ∃ D S lo most le, ds = [frq D, frq S, .int ((lo : Nat) : Int), .int ((most : Nat) : Int), .int ((le : Nat) : Int)] ∧ BdOk D S lo most le ∧ most < 2 * lo ∧ po = fun r => ∃ z, r = .int z
section
variable {K : PySem.W.Frag} {M : MM} {Q : Ent → MM → Prop}
theorem c_pull {c : Int} {D S : Int × Int} {lo most le : Nat} (h : BdOk D S lo most le) (p : ∀ q, FqQ 100 q → Q (.dat (frq q)) M) : Cb K (fun vs H Q => SpQ K rPull vs H Q E0) [.dat (bdQ c D S lo most le)] M Q := c_Q (.cons .nil) _ ⟨c, D, S, lo, most, le, rfl, h.q, h.l1, h.l2, h.l3, h.e1, h.e8, rfl⟩ fun r ⟨q, e, hq⟩ => by rw [e]; exact p q hq
theorem c_needed {c : Int} {D S : Int × Int} {lo most le : Nat} {run : Int} (h : BdOk D S lo most le) (r0 : 0 ≤ run) (r1 : run ≤ 20) (p : ∀ q, FqQ 400 q → Q (.dat (frq q)) M) : Cb K (fun vs H Q => SpQ K rNeeded vs H Q E0) [.dat (bdQ c D S lo most le), .dat (.int run)] M Q := c_Q (.cons (.cons .nil)) _ ⟨c, D, S, lo, most, le, run, rfl, h, r0, r1, rfl⟩ fun r ⟨q, e, hq⟩ => by rw [e]; exact p q hq
end
section
variable {P : Program} {w : World} {K : PySem.W.Frag} {mg : Str → Option Value} {base : Heap}
theorem ok_l_needed (B : Bt mg) (D_l_times : Has P w K mg base 3 "_law_times" ["one", "other"] (SpQ K rTimes)) (D_l_added : Has P w K mg base 3 "_law_added" ["one", "other"] (SpQ K rAdd)) (D_l_pull : Has P w K mg base 5 "_law_pull" ["bounds"] (SpQ K rPull)) (T : Stands K mg "_law_needed" s_l_needed ["bounds", "run"]) : Has P w K mg base 6 "_law_needed" ["bounds", "run"] (SpQ K rNeeded) := by
  refine hasQ T sc_l_needed (fun ds po ⟨c, D, S, lo, most, le, run, e, _⟩ => by rw [e]; rfl) 2 rfl fun f cdv A outer s H E g hr => ⟨_, (pss_cons (ps_set (i := 2) sc_l_needed.nd rfl (by first | exact .inl rfl | exact .inr rfl) (peD D_l_times g hr (by first | decide | exact Nat.le_refl _ | omega) (by rfl) (pa_cons (pe_tup (pa_cons (pv 1) (pa_cons pe_int pa_nil))) (pa_cons (peD D_l_pull g hr (by first | decide | exact Nat.le_refl _ | omega) (by rfl) (pa_cons (pv 0) pa_nil)) pa_nil))))
      (pss_cons (ps_set (i := 3) sc_l_needed.nd rfl (by first | exact .inl rfl | exact .inr rfl) (peD D_l_times g hr (by first | decide | exact Nat.le_refl _ | omega) (by rfl) (pa_cons (pe_ix ix_tup (pv 0) pe_int (fun _ _ => rfl)) (pa_cons (pe_tup (pa_cons (pe_op op_mulA (pv 1) (pe_op op_add (pv 1) pe_int)) (pa_cons pe_int pa_nil))) pa_nil))))
      (pss_one (ps_ret (peD D_l_added g hr (by first | decide | exact Nat.le_refl _ | omega) (by rfl) (pa_cons (peD D_l_times g hr (by first | decide | exact Nat.le_refl _ | omega) (by rfl) (pa_cons (pe_tup (pa_cons pe_int (pa_cons pe_int pa_nil))) (pa_cons (pe_ix ix_tup (pv 0) pe_int (fun _ _ => rfl)) pa_nil))) (pa_cons (peD D_l_added g hr (by first | decide | exact Nat.le_refl _ | omega) (by rfl) (pa_cons (pv 2) (pa_cons (pv 3) pa_nil))) pa_nil))))))), ?_⟩
  try dsimp only [cxOf]
  rintro ds po ⟨c, D, S, lo, most, le, run, rfl, hB, r0, r1, rfl⟩
  have fr1 : FqQ 10 (run, (1 : Int)) := one_fq (by omega) (by omega)
  have f4 : FqQ 10 ((4 : Int), (1 : Int)) := one_fq (by omega) (by omega)
  have rr : 0 ≤ run * (run + 1) := Int.mul_nonneg r0 (by omega)
  have rs : run * (run + 1) ≤ 20 * 21 := Int.mul_le_mul r1 (by omega) (by omega) (by decide)
  have fr2 : FqQ 10 (run * (run + 1), (1 : Int)) := one_fq (by omega) (by omega)
  have ok : IntMulOk run (run + 1) := Bd.ok (j := 10) (k := 10) (by show _ < _; omega) (by show _ < _; omega) (by decide) (by decide) (by decide)
  have fd := hB.q.d
  have fs := hB.q.s
  repeat' walk_at "yy"
  refine c_pull hB fun q hq => ?_
  have f1 : FqQ 110 (qtimes (run, 1) q) := qtimes_fq fr1 hq
  have f2 : FqQ 20 (qtimes D (run * (run + 1), 1)) := qtimes_fq fd fr2
  have f3 : FqQ 20 (qtimes (4, 1) S) := qtimes_fq f4 fs
  have f5 : FqQ 131 (qadd (qtimes (run, 1) q) (qtimes D (run * (run + 1), 1))) := Fq.up (qadd_fq f1 f2) (by decide)
  repeat' (first | refine o_mul ok ?_ | refine c_timesL (x := (run, 1)) (y := q) (Fq.up fr1 (by decide)) (Fq.up hq (by decide)) ?_ | refine c_timesL (x := D) (y := (run * (run + 1), 1)) (Fq.up fd (by decide)) (Fq.up fr2 (by decide)) ?_ | refine c_timesL (x := (4, 1)) (y := S) (Fq.up f4 (by decide)) (Fq.up fs (by decide)) ?_ | refine c_add (Fq.up f1 (by decide)) (Fq.up f2 (by decide)) ?_ | refine c_add (Fq.up f3 (by decide)) (Fq.up f5 (by decide)) ?_ | walk_at "yy")
  exact Fq.up (qadd_fq f3 f5) (by decide)
theorem ok_l_least_watchful (B : Bt mg) (D_l_needed : Has P w K mg base 6 "_law_needed" ["bounds", "run"] (SpQ K rNeeded)) (T : Stands K mg "_law_least_watchful" s_l_least_watchful ["drift", "shift", "lo", "most", "lead"]) : Has P w K mg base 7 "_law_least_watchful" ["drift", "shift", "lo", "most", "lead"] (SpQ K rWatch) := by
  refine hasQ T sc_l_least_watchful (fun ds po ⟨D, S, lo, most, le, e, _⟩ => by rw [e]; rfl) 5 rfl fun f cdv A outer s H E g hr => ⟨_, (pss_cons (ps_par (i := 5) (j := 6) (by rfl) sc_l_least_watchful.nd rfl rfl (by decide) rfl rfl (pa_cons (pe_op op_sub (pe_op op_mulA pe_int (pv 2)) (pv 3)) (pa_cons (pe_tup (pa_cons pe_int (pa_cons (pv 0) (pa_cons (pv 1) (pa_cons (pv 2) (pa_cons (pv 3) (pa_cons (pv 4) pa_nil))))))) pa_nil)) (by rfl))
      (pss_cons (ps_if (pt_cmpR op_le (pv 5) pe_int (nomark _)) (pss_one (ps_ret pe_non)) pss_nil)
      (pss_cons (ps_par (i := 7) (j := 8) (by rfl) sc_l_least_watchful.nd rfl rfl (by decide) rfl rfl (pa_cons (peD D_l_needed g hr (by first | decide | exact Nat.le_refl _ | omega) (by rfl) (pa_cons (pv 6) (pa_cons (pv 3) pa_nil))) (pa_cons (peD D_l_needed g hr (by first | decide | exact Nat.le_refl _ | omega) (by rfl) (pa_cons (pv 6) (pa_cons (pe_op op_sub (pv 3) pe_int) pa_nil))) pa_nil)) (by rfl))
      (pss_cons (ps_set (i := 9) sc_l_least_watchful.nd rfl (by first | exact .inl rfl | exact .inr rfl) (pe_ifExp (pt_cmpR op_lt (pv 2) (pv 3) (nomark _)) (pe_op op_add (pe_op op_divA (pe_callTy call_int1 (by rfl) B.b_int (by decide +kernel) (pa_cons (pe_ix ix_tup (pv 8) pe_int (fun _ _ => rfl)) pa_nil)) (pe_ix ix_tup (pv 8) pe_int (fun _ _ => rfl))) pe_int) pe_int))
      (pss_one (ps_ret (pe_callB (call_max2 rfl) (by rfl) B.b_max (by decide +kernel) (pa_cons (pv 9) (pa_cons (pe_op op_add (pe_op op_divA (pe_callTy call_int1 (by rfl) B.b_int (by decide +kernel) (pa_cons (pe_ix ix_tup (pv 7) pe_int (fun _ _ => rfl)) pa_nil)) (pe_op op_mulA (pe_ix ix_tup (pv 7) pe_int (fun _ _ => rfl)) (pv 5))) pe_int) pa_nil))))))))), ?_⟩
  try dsimp only [cxOf]
  rintro ds po ⟨D, S, lo, most, le, rfl, hB, hg, rfl⟩
  have l3 := hB.l3
  have l2 := hB.l2
  have l1 := hB.l1
  have o2 : IntMulOk (2 : Int) (lo : Int) := mulL (by omega)
  repeat' (first | refine o_mul o2 ?_ | walk_at "yy")
  · exact absurd (of_decide_eq_true ‹decide (2 * (lo : Int) - (most : Int) ≤ 0) = true›) (by omega)
  · refine c_needed hB (by omega) (by omega) fun q1 h1 => ?_
    repeat' walk_at "yy"
    refine c_needed hB (by omega) (by omega) fun q2 h2 => ?_
    have n1 := h1.fr.1
    have n2 := h2.fr.1
    have g1 : (0 : Int) < 2 * (lo : Int) - (most : Int) := by omega
    have b1 : Bd 8000 q2.2 := h2.d.up (by decide)
    have gb : Bd 10 (2 * (lo : Int) - (most : Int)) := by show _ < _; omega
    have ok : IntMulOk q1.2 (2 * (lo : Int) - (most : Int)) := Bd.ok h1.d gb (by decide) (by decide) (by decide)
    have pp := Int.mul_pos n1 g1
    have b2 : Bd 8000 (q1.2 * (2 * (lo : Int) - (most : Int))) := (h1.d.mul gb).up (by decide)
    repeat' (first | refine o_mul ok ?_ | refine o_divA (by omega) (b1.div (by decide) (by decide)) ?_ | refine o_divA (by omega) (b2.div (by decide) (by decide)) ?_ | walk_at "yy")
    all_goals exact ⟨_, rfl⟩
end
end K53

set_option Elab.async false
set_option linter.all false
set_option maxRecDepth 100000
set_option maxHeartbeats 1000000
set_option exponentiation.threshold 20000
namespace K53
open PySem PySem.Spec PyProof.Rows L2 Yw
local macro_rules | `(tactic| walk_at "ye") => `(tactic| first
  | ((with_reducible show Ev _ (tVar _) _ _ _); first | refine ev_dat rfl ?_ | refine ev_ref rfl ?_ | refine ev_var rfl (fun z => nomatch z) ?_)
  | ((with_reducible show Ev _ (tC _) _ _ _); first | with_reducible refine ev_int ?_ | with_reducible refine ev_bl ?_ | with_reducible refine ev_non ?_ | with_reducible refine ev_str ?_ | with_reducible refine ev_ty ?_)
  | with_reducible refine ev_op ?_
  | with_reducible refine ev_un ?_
  | with_reducible refine ev_go ?_
  | with_reducible refine ev_cb ?_
  | with_reducible refine ev_tupD ?_
  | with_reducible refine ev_lstD ?_
  | with_reducible refine ev_chain ?_
  | with_reducible refine ev_if ?_
  | with_reducible refine ev_andV ?_
  | with_reducible refine ev_orV ?_
  | with_reducible refine ev_notV ?_
  | with_reducible refine ev_sl ?_
  | with_reducible refine ev_bm ?_)
local macro_rules | `(tactic| walk_at "ya") => `(tactic| first
  | with_reducible refine ea_cons ?_
  | with_reducible refine ea_nil ?_
  | with_reducible refine eo_none ?_
  | with_reducible refine eo_some ?_
  | with_reducible refine et_test ?_
  | with_reducible refine et_B ?_
  | with_reducible refine et_and ?_
  | with_reducible refine et_or ?_
  | with_reducible refine et_not ?_
  | with_reducible refine et_yes ?_
  | with_reducible refine tg_name ?_
  | with_reducible refine tgs_nil ?_
  | with_reducible refine tgs_cons ?_
  | ((with_reducible show Tg _ (gTup _ _ _) _ _ _ _); refine tg_tup rfl ?_)
  | with_reducible refine tg_sub ?_)
local macro_rules | `(tactic| walk_at "ys") => `(tactic| first
  | with_reducible refine sj_seq ?_
  | with_reducible refine sj_next ?_
  | with_reducible refine sj_newD ?_
  | with_reducible refine sj_set ?_
  | with_reducible refine sj_par ?_
  | with_reducible refine sj_ret ?_
  | with_reducible refine sj_drop ?_
  | with_reducible refine sj_if ?_
  | with_reducible refine sj_asg ?_
  | with_reducible refine sj_augS ?_
  | with_reducible refine iw_seq ?_
  | with_reducible refine iw_zip ?_
  | with_reducible refine iw_list ?_
  | with_reducible refine iw_tup ?_
  | with_reducible refine iw_r1 ?_
  | with_reducible refine iw_r2 ?_
  | with_reducible refine iw_enumT ?_)
local macro_rules | `(tactic| walk_at "yo") => `(tactic| first
  | with_reducible refine o_int ?_
  | with_reducible refine o_bool ?_
  | with_reducible refine o_mul (by first | exact mulR ⟨by decide, by decide⟩ | exact mulL ⟨by decide, by decide⟩) ?_
  | with_reducible refine o_mul ?_ ?_
  | with_reducible refine o_mod (by decide) ?_
  | with_reducible refine o_mod ?_ ?_
  | with_reducible refine o_div (by decide) (by decide +kernel) ?_
  | with_reducible refine o_cat ?_ ?_
  | with_reducible refine o_catT ?_ ?_
  | ((with_reducible show Op2 _ (rIxL _) (Ent.ref _) _ _ _); refine o_ixM (List.Mem.head _) rfl ?_)
  | with_reducible refine o_eqI ?_
  | with_reducible refine o_neI ?_
  | with_reducible refine o_eqS ?_
  | with_reducible refine o_neS ?_
  | with_reducible refine o_neg ?_
  | ((with_reducible show Op2 _ (rIxT _) _ _ _ _); refine o_ixT rfl ?_)
  | ((with_reducible show Op2 _ (rIxL _) (Ent.dat _) _ _ _); refine o_ixL rfl ?_)
  | ((with_reducible show Op2 _ (rI CPow _) _ _ _ _); refine o_pow ⟨by decide, by decide, by decide⟩ rfl ?_)
  | with_reducible refine c_abs ?_
  | with_reducible refine c_int ?_
  | with_reducible refine c_min2 ?_
  | with_reducible refine c_max2 ?_
  | with_reducible refine c_gcd ?_
  | with_reducible refine sl_L ?_
  | with_reducible refine c_len (.lst _) ?_
  | with_reducible refine c_len (.tup _) ?_)
local macro_rules | `(tactic| walk_at "yx") => `(tactic| first
  | with_reducible refine ⟨_, rfl, ?_⟩
  | with_reducible refine ⟨_, _, rfl, ?_⟩
  | with_reducible refine ⟨fun _ => ?_, fun _ => ?_⟩
  | ((with_reducible show ∃ _ _ _ _ _ _, _ = _ ∧ _ = _ ∧ _ = _ ∧ _ = _ ∧ _); refine ⟨[], _, _, _, _, _, rfl, rfl, rfl, rfl, ?_⟩)
  | ((with_reducible show ∃ _ _ _ _ _, _ = _ ∧ _ = _ ∧ _ ∧ _ ∧ _ ∧ _ = _ ∧ _ = _ ∧ _); refine ⟨_, _, _, _, _, rfl, rfl, List.Mem.head _, by decide, by decide, rfl, rfl, ?_⟩)
  | ((with_reducible show ∃ _ _ _, _ = _ ∧ _ = _ ∧ _); refine ⟨[], _, _, rfl, rfl, ?_⟩)
  | ((with_reducible show ∃ _, Ds _ _ ∧ _ ∧ _); refine ⟨_, (by repeat (first | exact Ds.nil | apply Ds.cons)), (by simp), ?_⟩))
local macro_rules | `(tactic| walk_at "yy") => `(tactic| first | walk_at "ye" | walk_at "ya" | walk_at "ys" | walk_at "yo" | walk_at "yx" | walk_at "yc")

local macro_rules | `(tactic| walk_at "yc") => `(tactic| first | with_reducible refine c_sumA (.lst _) ?_ | with_reducible refine ev_bits ?_)
section
variable {P : Program} {w : World} {K : PySem.W.Frag} {mg : Str → Option Value} {base : Heap}
theorem ok_many_bodies (B : Bt mg) (D_counts_to : Has P w K mg base 1 "counts_to" ["bounds", "data"] (SpQ K rCounts)) (T : Stands K mg "many_bodies" s_many_bodies ["bounds", "data"]) : Has P w K mg base 2 "many_bodies" ["bounds", "data"] (SpQ K rMany) := by
  refine hasQ T sc_many_bodies (fun ds po ⟨c, dr, sh, le, lo, most, n, e, _⟩ => by rw [e]; rfl) 0 rfl fun f cdv A outer s H E g hr => ⟨_, (pss_one (ps_ret (pe_ix ix_tup (peD D_counts_to g hr (by first | decide | exact Nat.le_refl _ | omega) (by rfl) (pa_cons (pv 0) (pa_cons (pv 1) pa_nil))) (pv 1) (fun _ _ => rfl)))), ?_⟩
  try dsimp only [cxOf]
  rintro ds po ⟨c, dr, sh, le, lo, most, n, rfl, h, rfl⟩
  repeat' walk_at "yy"
  refine c_counts lo most n rfl rfl rfl h.h1 h.h2 h.h3 h.h4 ?_
  repeat' (first | refine o_ixT (cnts_at (lo := lo) (most := most) (n := n) rfl (Nat.le_refl n)) ?_ | walk_at "yy")
  rfl
theorem ok_bits_in (B : Bt mg) (T : Stands K mg "bits_in" s_bits_in ["many"]) : Has P w K mg base 1 "bits_in" ["many"] (SpQ K rBitsIn0) := by
  refine hasQ T sc_bits_in (fun ds po ⟨m, e, _⟩ => by rw [e]; rfl) 0 rfl fun f cdv A outer s H E g hr => ⟨_, (pss_one (ps_ret (pe_ifExp (pt_cmpR op_gt (pv 0) pe_int (nomark _)) (pe_op op_sub (pe_bits (pv 0)) pe_int) pe_non))), ?_⟩
  try dsimp only [cxOf]
  rintro ds po ⟨m, rfl, rfl⟩
  unfold bitsD
  repeat' walk_at "yy"
  · rw [if_pos (of_decide_eq_true ‹_›)]
  · rw [if_neg (of_decide_eq_false ‹_›)]
theorem ok_bits_of (B : Bt mg) (D_many_bodies : Has P w K mg base 2 "many_bodies" ["bounds", "data"] (SpQ K rMany)) (D_bits_in : Has P w K mg base 1 "bits_in" ["many"] (SpQ K rBitsIn0)) (T : Stands K mg "bits_of" s_bits_of ["bounds", "data"]) : Has P w K mg base 3 "bits_of" ["bounds", "data"] (SpQ K rBitsOf0) := by
  refine hasQ T sc_bits_of (fun ds po ⟨c, dr, sh, le, lo, most, n, e, _⟩ => by rw [e]; rfl) 0 rfl fun f cdv A outer s H E g hr => ⟨_, (pss_one (ps_ret (peD D_bits_in g hr (by first | decide | exact Nat.le_refl _ | omega) (by rfl) (pa_cons (peD D_many_bodies g hr (by first | decide | exact Nat.le_refl _ | omega) (by rfl) (pa_cons (pv 0) (pa_cons (pv 1) pa_nil))) pa_nil)))), ?_⟩
  try dsimp only [cxOf]
  rintro ds po ⟨c, dr, sh, le, lo, most, n, rfl, h, rfl⟩
  repeat' walk_at "yy"
  refine c_many lo most n rfl rfl rfl h ?_
  repeat' walk_at "yy"
  refine c_bitsIn0 ?_
  repeat' walk_at "yy"
  rfl
theorem ok_l_counts (B : Bt mg) (T : Stands K mg "_law_counts" s_l_counts ["bounds", "data"]) : Has P w K mg base 1 "_law_counts" ["bounds", "data"] (SpQ K rLCounts) := by
  refine hasQ T sc_l_counts (fun ds po ⟨c, dr, sh, le, lo, most, n, e, _⟩ => by rw [e]; rfl) 3 rfl fun f cdv A outer s H E g hr => ⟨_, (pss_cons (ps_set (i := 2) sc_l_counts.nd rfl (by first | exact .inl rfl | exact .inr rfl) (pe_lst (pa_cons pe_int pa_nil)))
      (pss_cons (ps_for PassesOwn.never rfl (pi_range2 (by rfl) B.b_range (pa_cons pe_int (pa_cons (pe_op op_add (pv 1) pe_int) pa_nil))) (pg_name (i := 3) sc_l_counts.nd rfl (by first | exact .inl rfl | exact .inr rfl)) (pss_one (ps_expr (pe_bm PySem.F.plainAttrs_list PySem.F.slot_list_append PySem.F.type_list_append mt_append (pv 2) (pa_cons (pe_callB (cr_sumA rfl) (by rfl) B.b_sum (by decide +kernel) (pa_cons (pe_lc (own := [("run", 4)]) (g := gName 4) (tt := tYes) rfl sc_l_counts.nd (pi_range2 (by rfl) B.b_range (pa_cons (pe_ix ix_tup (pv 0) pe_int (fun _ _ => rfl)) (pa_cons (pe_op op_add (pe_callB (call_min2 rfl) (by rfl) B.b_min (by decide +kernel) (pa_cons (pe_ix ix_tup (pv 0) pe_int (fun _ _ => rfl)) (pa_cons (pv 3) pa_nil))) pe_int) pa_nil))) (blkOk_by (N := N_l_counts) (sc := defScope s_l_counts) (by decide +kernel)) (fun _ _ _ _ _ => (pg_name (i := 4) sc_l_counts.nd rfl (by first | exact .inl rfl | exact .inr rfl))) (fun _ _ _ _ _ => pts_nil) (fun _ _ _ _ _ => (pe_ix (ixlK (K := K) rfl) (pv 2) (pe_op op_sub (pv 3) (pv 4)) (fun _ _ => rfl)))) pa_nil)) pa_nil)))))
      (pss_one (ps_ret (pv 2))))), ?_⟩
  try dsimp only [cxOf]
  rintro ds po ⟨c, dr, sh, le, lo, most, n, rfl, h, rfl⟩
  have h1 := h.h1
  have h2 := h.h2
  have h3 := h.h3
  have h4 := h.h4
  repeat' walk_at "yy"
  intro p hp
  repeat' walk_at "yy"
  refine sj_for ?_
  repeat' walk_at "yy"
  refine ⟨by omega, ?_⟩
  refine ⟨fun k es M => ∃ e3 e4, es = [.dat (bdD c dr sh (lo : Int) (most : Int) le), .dat (.int (n : Int)), .ref p, e3, e4] ∧ M = [(p, .lst ((cntsI lo most k).map PyData.int))], ⟨_, _, rfl, ?_⟩, ?_, ?_⟩
  · show [(p, MO.lst [PyData.int 1])] = _
    simp [cntsI, cntL, rowsL_zero]
  · rintro k d es M hd ⟨e3, e4, rfl, rfl⟩
    obtain ⟨hk, rfl⟩ := rgD_at hd
    repeat' walk_at "yy"
    refine ⟨ty_ref (List.Mem.head _), ?_⟩
    repeat' walk_at "yy"
    refine ev_lc (own_name (by decide)) ?_
    repeat' walk_at "yy"
    refine ⟨⟨by omega, by omega, by split <;> omega, by split <;> omega⟩, ?_⟩
    rw [show ((if 1 + (k : Int) < (most : Int) then 1 + (k : Int) else (most : Int)) + 1 - (lo : Int)).toNat = min most (k + 1) + 1 - lo by split <;> omega]
    refine ⟨fun j acc M => acc = ((List.range' lo j).map fun r => cntL lo most (k + 1 - r)).map PyData.int ∧ M = [(p, MO.lst ((cntsI lo most k).map PyData.int))], ⟨rfl, rfl⟩, fun j d acc M hd e => ?_, fun acc M e => ?_⟩
    · obtain ⟨rfl, rfl⟩ := e
      obtain ⟨hj, rfl⟩ := rgD_at hd
      refine ⟨by rw [List.length_map, List.length_map, List.length_range']; omega, ?_⟩
      repeat' (first | exact absurd ‹true = false› (by decide) | refine o_ixM (List.Mem.head _) (cnts_at (l := k + 1 - (lo + j)) (by omega) (by omega)) ?_ | walk_at "yy")
      refine ⟨?_, rfl⟩
      rw [List.range'_concat, List.map_append, List.map_append, show lo + 1 * j = lo + j by omega]
      rfl
    · obtain ⟨rfl, rfl⟩ := e
      rw [rgD_len]
      repeat' walk_at "yy"
      rw [← cntL_eq h1 (by omega : k + 1 ≠ 0)]
      refine m_append (Ma := []) (Mb := []) rfl (by unfold cntsI; rw [List.length_map, List.length_map, List.length_range]; omega) ?_
      refine ⟨_, _, rfl, ?_⟩
      unfold cntsI
      rw [List.range_succ (n := k + 1), List.map_append, List.map_append]
      rfl
  · rintro es M ⟨e3, e4, rfl, rfl⟩
    rw [rgD_len]
    refine sj_fast [] [] rfl hp (.keep (.keep (.hit (.keep (.keep .nil))))) ?_
    repeat' walk_at "yy"
    show _ = _
    rw [show ((n : Int) + 1 - 1).toNat = n by omega]
end
end K53

set_option Elab.async false
set_option linter.all false
set_option maxRecDepth 100000
set_option maxHeartbeats 1000000
set_option exponentiation.threshold 20000
namespace K53
open PySem PySem.Spec PyProof.Rows L2 Yw
local macro_rules | `(tactic| walk_at "ye") => `(tactic| first
  | ((with_reducible show Ev _ (tVar _) _ _ _); first | refine ev_dat rfl ?_ | refine ev_ref rfl ?_ | refine ev_var rfl (fun z => nomatch z) ?_)
  | ((with_reducible show Ev _ (tC _) _ _ _); first | with_reducible refine ev_int ?_ | with_reducible refine ev_bl ?_ | with_reducible refine ev_non ?_ | with_reducible refine ev_str ?_ | with_reducible refine ev_ty ?_)
  | with_reducible refine ev_op ?_
  | with_reducible refine ev_un ?_
  | with_reducible refine ev_go ?_
  | with_reducible refine ev_cb ?_
  | with_reducible refine ev_tupD ?_
  | with_reducible refine ev_lstD ?_
  | with_reducible refine ev_chain ?_
  | with_reducible refine ev_if ?_
  | with_reducible refine ev_andV ?_
  | with_reducible refine ev_orV ?_
  | with_reducible refine ev_notV ?_
  | with_reducible refine ev_sl ?_
  | with_reducible refine ev_bm ?_)
local macro_rules | `(tactic| walk_at "ya") => `(tactic| first
  | with_reducible refine ea_cons ?_
  | with_reducible refine ea_nil ?_
  | with_reducible refine eo_none ?_
  | with_reducible refine eo_some ?_
  | with_reducible refine et_test ?_
  | with_reducible refine et_B ?_
  | with_reducible refine et_and ?_
  | with_reducible refine et_or ?_
  | with_reducible refine et_not ?_
  | with_reducible refine et_yes ?_
  | with_reducible refine tg_name ?_
  | with_reducible refine tgs_nil ?_
  | with_reducible refine tgs_cons ?_
  | ((with_reducible show Tg _ (gTup _ _ _) _ _ _ _); refine tg_tup rfl ?_)
  | with_reducible refine tg_sub ?_)
local macro_rules | `(tactic| walk_at "ys") => `(tactic| first
  | with_reducible refine sj_seq ?_
  | with_reducible refine sj_next ?_
  | with_reducible refine sj_newD ?_
  | with_reducible refine sj_set ?_
  | with_reducible refine sj_par ?_
  | with_reducible refine sj_ret ?_
  | with_reducible refine sj_drop ?_
  | with_reducible refine sj_if ?_
  | with_reducible refine sj_asg ?_
  | with_reducible refine sj_augS ?_
  | with_reducible refine iw_seq ?_
  | with_reducible refine iw_zip ?_
  | with_reducible refine iw_list ?_
  | with_reducible refine iw_tup ?_
  | with_reducible refine iw_r1 ?_
  | with_reducible refine iw_r2 ?_
  | with_reducible refine iw_enumT ?_)
local macro_rules | `(tactic| walk_at "yo") => `(tactic| first
  | with_reducible refine o_int ?_
  | with_reducible refine o_bool ?_
  | with_reducible refine o_mul (by first | exact mulR ⟨by decide, by decide⟩ | exact mulL ⟨by decide, by decide⟩) ?_
  | with_reducible refine o_mul ?_ ?_
  | with_reducible refine o_mod (by decide) ?_
  | with_reducible refine o_mod ?_ ?_
  | with_reducible refine o_div (by decide) (by decide +kernel) ?_
  | with_reducible refine o_cat ?_ ?_
  | with_reducible refine o_catT ?_ ?_
  | ((with_reducible show Op2 _ (rIxL _) (Ent.ref _) _ _ _); refine o_ixM (List.Mem.head _) rfl ?_)
  | with_reducible refine o_eqI ?_
  | with_reducible refine o_neI ?_
  | with_reducible refine o_eqS ?_
  | with_reducible refine o_neS ?_
  | with_reducible refine o_neg ?_
  | ((with_reducible show Op2 _ (rIxT _) _ _ _ _); refine o_ixT rfl ?_)
  | ((with_reducible show Op2 _ (rIxL _) (Ent.dat _) _ _ _); refine o_ixL rfl ?_)
  | ((with_reducible show Op2 _ (rI CPow _) _ _ _ _); refine o_pow ⟨by decide, by decide, by decide⟩ rfl ?_)
  | with_reducible refine c_abs ?_
  | with_reducible refine c_int ?_
  | with_reducible refine c_min2 ?_
  | with_reducible refine c_max2 ?_
  | with_reducible refine c_gcd ?_
  | with_reducible refine sl_L ?_
  | with_reducible refine c_len (.lst _) ?_
  | with_reducible refine c_len (.tup _) ?_)
local macro_rules | `(tactic| walk_at "yx") => `(tactic| first
  | with_reducible refine ⟨_, rfl, ?_⟩
  | with_reducible refine ⟨_, _, rfl, ?_⟩
  | with_reducible refine ⟨fun _ => ?_, fun _ => ?_⟩
  | ((with_reducible show ∃ _ _ _ _ _ _, _ = _ ∧ _ = _ ∧ _ = _ ∧ _ = _ ∧ _); refine ⟨[], _, _, _, _, _, rfl, rfl, rfl, rfl, ?_⟩)
  | ((with_reducible show ∃ _ _ _ _ _, _ = _ ∧ _ = _ ∧ _ ∧ _ ∧ _ ∧ _ = _ ∧ _ = _ ∧ _); refine ⟨_, _, _, _, _, rfl, rfl, List.Mem.head _, by decide, by decide, rfl, rfl, ?_⟩)
  | ((with_reducible show ∃ _ _ _, _ = _ ∧ _ = _ ∧ _); refine ⟨[], _, _, rfl, rfl, ?_⟩)
  | ((with_reducible show ∃ _, Ds _ _ ∧ _ ∧ _); refine ⟨_, (by repeat (first | exact Ds.nil | apply Ds.cons)), (by simp), ?_⟩))
local macro_rules | `(tactic| walk_at "yy") => `(tactic| first | walk_at "ye" | walk_at "ya" | walk_at "ys" | walk_at "yo" | walk_at "yx" | walk_at "yc")

/-! ### how wide a word is -/
theorem geo (lo : Nat) (h1 : 1 ≤ lo) (f : Nat → Int) : ∀ (k n : Nat), lo + k ≤ n + 1 → (∀ l, l < n → f l ≤ 2 ^ l) → ((List.range' lo k).map fun r => f (n - r)).sum + 2 ^ (n + 1 - lo - k) ≤ 2 ^ (n + 1 - lo)
  | 0, n, _, _ => by simp
  | k + 1, n, h, hf => by
    have ih := geo lo h1 f k n (by omega) hf
    rw [List.range'_concat, List.map_append, List.sum_append]
    simp only [List.map_cons, List.map_nil, List.sum_cons, List.sum_nil, Nat.one_mul]
    have a := hf (n - (lo + k)) (by omega)
    have e1 : n - (lo + k) = n + 1 - lo - (k + 1) := by omega
    have e2 : n + 1 - lo - k = n + 1 - lo - (k + 1) + 1 := by omega
    rw [e1] at a ⊢
    rw [e2, Int.pow_succ] at ih
    omega
theorem cntL_bd {lo most : Nat} (h1 : 1 ≤ lo) : ∀ (k n : Nat), n ≤ k → cntL lo most n ≤ 2 ^ n
  | k, 0, _ => by simp [cntL, rowsL_zero]
  | 0, n + 1, h => by omega
  | k + 1, n + 1, h => by
    rw [cntL_eq h1 (by omega)]
    by_cases c : min most (n + 1) + 1 ≤ lo
    · rw [show min most (n + 1) + 1 - lo = 0 by omega]
      exact Int.le_of_lt (Int.pow_pos (by decide))
    · have g := geo lo h1 (cntL lo most) (min most (n + 1) + 1 - lo) (n + 1) (by omega) fun l hl => cntL_bd h1 k l (by omega)
      have p0 : (0 : Int) < 2 ^ (n + 1 + 1 - lo - (min most (n + 1) + 1 - lo)) := Int.pow_pos (by decide)
      have le : (2 : Int) ^ (n + 1 + 1 - lo) ≤ 2 ^ (n + 1) := by
        have := Nat.pow_le_pow_right (show 0 < 2 by decide) (show n + 1 + 1 - lo ≤ n + 1 by omega)
        exact_mod_cast this
      omega
def IsW (sz b w : Nat) : Prop := sz < b * 97 ^ (w + 1) ∧ ∀ v, v < w → b * 97 ^ (v + 1) ≤ sz
theorem IsW.uniq {sz b v w : Nat} (h : IsW sz b v) (g : IsW sz b w) : v = w := by
  rcases Nat.lt_trichotomy v w with c | c | c
  · have := g.2 v c
    have := h.1
    omega
  · exact c
  · have := h.2 w c
    have := g.1
    omega
open Classical in
noncomputable def wid (sz b : Nat) : Nat := if h : ∃ w, IsW sz b w then h.choose else 0
theorem IsW.eq {sz b w : Nat} (h : IsW sz b w) : wid sz b = w := by
  unfold wid
  rw [dif_pos ⟨w, h⟩]
  exact (Exists.choose_spec (⟨w, h⟩ : ∃ w, IsW sz b w)).uniq h
/-- the numbers of a form without a word -/
abbrev base0 (many spare : Nat) : Nat := 2097152 * (many + spare)
noncomputable def fW (lo most n many spare : Nat) : Nat := if 0 < cntL lo most n then wid (2 ^ (cntL lo most n).toNat.log2) (base0 many spare) else 0
abbrev frmD (c dr sh : PyData) (lo most : Nat) (le : Int) (n many spare : Nat) : PyData := .tuple [bdD c dr sh (lo : Int) (most : Int) le, .int (n : Int), .int (many : Int), .int (spare : Int)]
structure FmOk (lo most n many spare : Nat) : Prop where
  b : BnS lo most n
  n9 : n ≤ 400
  m1 : 1 ≤ many
  m9 : many ≤ 100
  s9 : spare ≤ 100
def basesL (all wd : Nat) : List Int := [64, 256, 64, 2, (all : Int)] ++ List.replicate wd 97
def rBases : RR := fun ds po => ∃ x n, ∃ (many spare wd : Nat), ds = [.tuple [x, n, .int (many : Int), .int (spare : Int)], .int (wd : Int)] ∧ wd ≤ 1000 ∧ po = fun r => r = rowD (basesL (many + spare) wd)
def rMany1 : RR := fun ds po => ∃ x n, ∃ (many spare : Nat), ds = [.tuple [x, n, .int (many : Int), .int (spare : Int)], .int 1] ∧ many + spare ≤ 1000 ∧ po = fun r => r = .int ((base0 many spare * 97 : Nat) : Int)
def rWidth : RR := fun ds po => ∃ c dr sh le, ∃ (lo most n many spare : Nat), ds = [frmD c dr sh lo most le n many spare] ∧ FmOk lo most n many spare ∧ po = fun r => r = .int (fW lo most n many spare : Int)
section
variable {K : PySem.W.Frag} {M : MM} {Q : Ent → MM → Prop}
theorem c_basesF {x n : PyData} {many spare : Nat} {wd : Int} (w : Nat) (e : wd = (w : Int)) (h : w ≤ 1000) (p : Q (.dat (rowD (basesL (many + spare) w))) M) : Cb K (fun vs H Q => SpQ K rBases vs H Q E0) [.dat (.tuple [x, n, .int (many : Int), .int (spare : Int)]), .dat (.int wd)] M Q := c_Q (.cons (.cons .nil)) _ ⟨x, n, many, spare, w, by rw [e], h, rfl⟩ fun r e => by rw [e]; exact p
theorem c_many1 {x n : PyData} {many spare : Nat} (h : many + spare ≤ 1000) (p : Q (.dat (.int ((base0 many spare * 97 : Nat) : Int))) M) : Cb K (fun vs H Q => SpQ K rMany1 vs H Q E0) [.dat (.tuple [x, n, .int (many : Int), .int (spare : Int)]), .dat (.int 1)] M Q := c_Q (.cons (.cons .nil)) _ ⟨x, n, many, spare, rfl, h, rfl⟩ fun r e => by rw [e]; exact p
theorem c_width {c dr sh : PyData} {le : Int} {lo most n many spare : Nat} (h : FmOk lo most n many spare) (p : Q (.dat (.int (fW lo most n many spare : Int))) M) : Cb K (fun vs H Q => SpQ K rWidth vs H Q E0) [.dat (frmD c dr sh lo most le n many spare)] M Q := c_Q (.cons .nil) _ ⟨c, dr, sh, le, lo, most, n, many, spare, rfl, h, rfl⟩ fun r e => by rw [e]; exact p
end
theorem flat1 {α : Type} (a : α) : ∀ n : Nat, (List.replicate n [a]).flatten = List.replicate n a
  | 0 => rfl
  | n + 1 => by rw [List.replicate_succ, List.flatten_cons, flat1 a n]; rfl
def mp (all : Int) : Nat → Int
  | 0 => 1
  | 1 => 64
  | 2 => 16384
  | 3 => 1048576
  | 4 => 2097152
  | 5 => 2097152 * all
  | _ => 2097152 * all * 97
section
variable {P : Program} {w : World} {K : PySem.W.Frag} {mg : Str → Option Value} {base : Heap}
theorem ok_bases_of (B : Bt mg)  (T : Stands K mg "bases_of" s_bases_of ["form", "width"]) : Has P w K mg base 1 "bases_of" ["form", "width"] (SpQ K rBases) := by
  refine hasQ T sc_bases_of (fun ds po ⟨x, n, many, spare, wd, e, _⟩ => by rw [e]; rfl) 0 rfl fun f cdv A outer s H E g hr => ⟨_, (pss_one (ps_ret (pe_op op_catA (pe_tup (pa_cons (pe_globI (by rfl) B.g_EPOCHS) (pa_cons (pe_globI (by rfl) B.g_DEEDS) (pa_cons (pe_globI (by rfl) B.g_PARTS) (pa_cons pe_int (pa_cons (pe_op op_add (pe_ix ix_tup (pv 0) pe_int (fun _ _ => rfl)) (pe_ix ix_tup (pv 0) pe_int (fun _ _ => rfl))) pa_nil)))))) (pe_op op_repA (pe_tup (pa_cons (pe_globI (by rfl) B.g_SYMBOLS) pa_nil)) (pv 1))))), ?_⟩
  try dsimp only [cxOf]
  rintro ds po ⟨x, n, many, spare, wd, rfl, hw, rfl⟩
  repeat' (first | refine o_repA (List.cons_ne_nil _ _) (by omega) (by omega) (by decide) ?_ | walk_at "yy")
  · rw [flat1, List.length_replicate]
    simp only [List.length_cons, List.length_nil]
    omega
  · show PyData.tuple ([.int 64, .int 256, .int 64, .int 2, .int ((many : Int) + (spare : Int))] ++ (List.replicate wd [PyData.int 97]).flatten) = _
    rw [flat1]
    unfold rowD basesL
    rw [List.map_append, List.map_replicate]
    simp
theorem ok_many_numbers (B : Bt mg) (D_bases_of : Has P w K mg base 1 "bases_of" ["form", "width"] (SpQ K rBases)) (T : Stands K mg "many_numbers" s_many_numbers ["form", "width"]) : Has P w K mg base 2 "many_numbers" ["form", "width"] (SpQ K rMany1) := by
  refine hasQ T sc_many_numbers (fun ds po ⟨x, n, many, spare, e, _⟩ => by rw [e]; rfl) 2 rfl fun f cdv A outer s H E g hr => ⟨_, (pss_cons (ps_set (i := 2) sc_many_numbers.nd rfl (by first | exact .inl rfl | exact .inr rfl) pe_int)
      (pss_cons (ps_for PassesOwn.never rfl (pi_tup (peD D_bases_of g hr (by first | decide | exact Nat.le_refl _ | omega) (by rfl) (pa_cons (pv 0) (pa_cons (pv 1) pa_nil)))) (pg_name (i := 3) sc_many_numbers.nd rfl (by first | exact .inl rfl | exact .inr rfl)) (pss_one (ps_set (i := 2) sc_many_numbers.nd rfl (by first | exact .inl rfl | exact .inr rfl) (pe_op op_mulA (pv 2) (pv 3)))))
      (pss_one (ps_ret (pv 2))))), ?_⟩
  try dsimp only [cxOf]
  rintro ds po ⟨x, n, many, spare, rfl, hs, rfl⟩
  repeat' walk_at "yy"
  refine sj_for ?_
  repeat' walk_at "yy"
  refine c_basesF 1 rfl (by decide) ?_
  have ok : ∀ k : Nat, ∀ z : Int, (basesL (many + spare) 1)[k]? = some z → IntMulOk (mp ((many + spare : Nat) : Int) k) z ∧ mp ((many + spare : Nat) : Int) k * z = mp ((many + spare : Nat) : Int) (k + 1) ∧ k < 6 := fun k z hz => by
    have bd : ∀ k, Bd 60 (mp ((many + spare : Nat) : Int) k) := fun k => by
      show _ < _
      unfold mp
      split <;> omega
    have bz : Bd 60 z := by
      have := List.mem_of_getElem? hz
      simp only [basesL, List.replicate, List.cons_append, List.nil_append, List.mem_cons, List.not_mem_nil, or_false] at this
      show _ < _
      omega
    refine ⟨Bd.ok (bd k) bz (by decide) (by decide) (by decide), ?_⟩
    match k with
    | 0 => cases hz; exact ⟨rfl, by decide⟩
    | 1 => cases hz; exact ⟨rfl, by decide⟩
    | 2 => cases hz; exact ⟨rfl, by decide⟩
    | 3 => cases hz; exact ⟨rfl, by decide⟩
    | 4 => cases hz; exact ⟨rfl, by decide⟩
    | 5 => cases hz; exact ⟨rfl, by decide⟩
    | k + 6 => cases hz
  refine ⟨_, rfl, ?_⟩
  refine ⟨fun k es M => ∃ e3, es = [.dat (.tuple [x, n, .int (many : Int), .int (spare : Int)]), .dat (.int 1), .dat (.int (mp ((many + spare : Nat) : Int) k)), e3] ∧ M = [], ⟨_, rfl, rfl⟩, ?_, ?_⟩
  · rintro k d es M hd ⟨e3, rfl, rfl⟩
    rw [List.getElem?_map] at hd
    obtain ⟨z, hz, rfl⟩ := Option.map_eq_some_iff.mp hd
    obtain ⟨o1, o2, _⟩ := ok k z hz
    repeat' (first | refine o_mul o1 ?_ | walk_at "yy")
    rw [o2]
    exact ⟨_, rfl, rfl⟩
  · rintro es M ⟨e3, rfl, rfl⟩
    repeat' walk_at "yy"
    show PyData.int (2097152 * ((many + spare : Nat) : Int) * 97) = PyData.int ((2097152 * (many + spare) * 97 : Nat) : Int)
    congr 1
theorem big_ok {lo most n many spare : Nat} (h : FmOk lo most n many spare) : (cntL lo most n).toNat.log2 ≤ 400 := by
  have a := cntL_bd (most := most) h.b.h1 n n (Nat.le_refl n)
  have z := cntL_nn lo most n
  by_cases c : (cntL lo most n).toNat = 0
  · rw [c]; decide
  · have b : (cntL lo most n).toNat < 2 ^ (n + 1) := by
      have : (cntL lo most n).toNat ≤ 2 ^ n := by
        have e : ((2 ^ n : Nat) : Int) = (2 : Int) ^ n := by simp
        omega
      rw [Nat.pow_succ]
      have := Nat.pow_pos (n := n) (show 0 < 2 by decide)
      omega
    have := (Nat.log2_lt c).mpr b
    have := h.n9
    omega
theorem fW_eq {lo most n many spare w : Nat} (c : 0 < cntL lo most n) (h : IsW (2 ^ (cntL lo most n).toNat.log2) (base0 many spare) w) : fW lo most n many spare = w := by
  unfold fW
  rw [if_pos c, h.eq]
set_option maxHeartbeats 4000000 in
theorem ok_width_of (B : Bt mg) (D_bits_of : Has P w K mg base 3 "bits_of" ["bounds", "data"] (SpQ K rBitsOf0)) (D_many_numbers : Has P w K mg base 2 "many_numbers" ["form", "width"] (SpQ K rMany1)) (T : Stands K mg "width_of" s_width_of ["form"]) : Has P w K mg base 4 "width_of" ["form"] (SpQ K rWidth) := by
  refine hasQ T sc_width_of (fun ds po ⟨c, dr, sh, le, lo, most, n, many, spare, e, _⟩ => by rw [e]; rfl) 3 rfl fun f cdv A outer s H E g hr => ⟨_, (pss_cons (ps_set (i := 1) sc_width_of.nd rfl (by first | exact .inl rfl | exact .inr rfl) (peD D_bits_of g hr (by first | decide | exact Nat.le_refl _ | omega) (by rfl) (pa_cons (pe_ix ix_tup (pv 0) pe_int (fun _ _ => rfl)) (pa_cons (pe_ix ix_tup (pv 0) pe_int (fun _ _ => rfl)) pa_nil))))
      (pss_cons (ps_if (pt_cmpR op_isN (pv 1) pe_non (nomark _)) (pss_one (ps_ret pe_int)) pss_nil)
      (pss_cons (ps_par (i := 2) (j := 3) (by rfl) sc_width_of.nd rfl rfl (by decide) rfl rfl (pa_cons pe_int (pa_cons (peD D_many_numbers g hr (by first | decide | exact Nat.le_refl _ | omega) (by rfl) (pa_cons (pv 0) (pa_cons pe_int pa_nil))) pa_nil)) (by rfl))
      (pss_cons (ps_while PassesOwn.never (pt_cmpR op_le (pv 3) (pe_op op_oneShl pe_int (pv 1)) (nomark _)) (pss_cons (ps_aug (i := 2) sc_width_of.nd rfl (by first | exact .inl rfl | exact .inr rfl) pe_int ip_add)
      (pss_one (ps_set (i := 3) sc_width_of.nd rfl (by first | exact .inl rfl | exact .inr rfl) (pe_op op_mulA (pv 3) (pe_globI (by rfl) B.g_SYMBOLS))))))
      (pss_one (ps_ret (pv 2))))))), ?_⟩
  try dsimp only [cxOf]
  rintro ds po ⟨c, dr, sh, le, lo, most, n, many, spare, rfl, h, rfl⟩
  have hb := h.b
  have m9 := h.m9
  have s9 := h.s9
  by_cases cp : 0 < cntL lo most n
  · have eb : bitsD (cntL lo most n) = .int (((cntL lo most n).toNat.log2 : Nat) : Int) := by
      unfold bitsD
      rw [if_pos cp, bits_is (b := (cntL lo most n).toNat.log2) (Nat.log2_self_le (by omega)) Nat.lt_log2_self cp]
    have hk := big_ok h
    have eW := fun w => fW_eq (many := many) (spare := spare) (w := w) cp
    generalize (cntL lo most n).toNat.log2 = k at eb hk eW
    repeat' walk_at "yy"
    refine c_bitsOf0 lo most n rfl rfl rfl hb ?_
    rw [eb]
    repeat' (first | refine o_isN2 ?_ | exact absurd ‹isNone (.int _) = true› (by simp [isNone]) | refine c_many1 (by omega) ?_ | walk_at "yy")
    refine sj_while (fun m es M => ∃ (w big : Nat), big = base0 many spare * 97 ^ (w + 1) ∧ m = 2 ^ k + 1 - big ∧ es = [.dat (frmD c dr sh lo most le n many spare), .dat (.int (k : Int)), .dat (.int (w : Int)), .dat (.int (big : Int))] ∧ (∀ v, v < w → base0 many spare * 97 ^ (v + 1) ≤ 2 ^ k) ∧ M = []) (2 ^ k + 1 - base0 many spare * 97) ⟨0, base0 many spare * 97, rfl, rfl, rfl, (fun v hv => absurd hv (by omega)), rfl⟩ ?_
    rintro m es M ⟨w, big, ebig, rfl, rfl, hv, rfl⟩
    repeat' (first | refine o_oneShl (by omega) ?_ | walk_at "yy")
    · have c1 : (big : Int) ≤ 2 ^ k := of_decide_eq_true ‹_›
      have c2 : big ≤ 2 ^ k := by
        have e : ((2 ^ k : Nat) : Int) = (2 : Int) ^ k := by simp
        omega
      have b1 : 1 ≤ big := by
        rw [ebig]
        exact Nat.mul_pos (Nat.mul_pos (by decide) (by have := h.m1; omega)) (Nat.pow_pos (by decide))
      have bb : Bd 500 (big : Int) := by
        show Int.natAbs (big : Int) < 2 ^ 500
        have := Nat.pow_lt_pow_right (show 1 < 2 by decide) (show k < 500 by omega)
        rw [Int.natAbs_natCast]
        omega
      have ok : IntMulOk (big : Int) 97 := Bd.ok (k := 10) bb (by show _ < _; decide) (by decide) (by decide) (by decide)
      refine sj_aug rfl ?_
      repeat' (first | refine o_mul ok ?_ | walk_at "yy")
      refine ⟨2 ^ k + 1 - big * 97, by omega, w + 1, big * 97, ?_, rfl, rfl, fun v hv2 => ?_, rfl⟩
      · rw [ebig, Nat.pow_succ 97 (w + 1), Nat.mul_assoc]
      · by_cases e : v = w
        · rw [e, ← ebig]
          exact c2
        · exact hv v (by omega)
    · have c1 : ¬ (big : Int) ≤ 2 ^ k := of_decide_eq_false ‹_›
      have c2 : 2 ^ k < big := by
        have e : ((2 ^ k : Nat) : Int) = (2 : Int) ^ k := by simp
        omega
      show PyData.int _ = PyData.int _
      rw [eW w ⟨by rw [← ebig]; exact c2, hv⟩]
  · have eb : bitsD (cntL lo most n) = .none := by
      unfold bitsD
      rw [if_neg cp]
    repeat' walk_at "yy"
    refine c_bitsOf0 lo most n rfl rfl rfl hb ?_
    rw [eb]
    repeat' (first | refine o_isN2 ?_ | exact absurd ‹isNone .none = false› (by decide) | walk_at "yy")
    show PyData.int _ = PyData.int _
    unfold fW
    rw [if_neg cp]
    rfl
set_option maxHeartbeats 4000000 in
theorem ok_l_width (B : Bt mg) (D_l_counts : Has P w K mg base 1 "_law_counts" ["bounds", "data"] (SpQ K rLCounts)) (T : Stands K mg "_law_width" s_l_width ["form"]) : Has P w K mg base 2 "_law_width" ["form"] (SpQ K rWidth) := by
  refine hasQ T sc_l_width (fun ds po ⟨c, dr, sh, le, lo, most, n, many, spare, e, _⟩ => by rw [e]; rfl) 4 rfl fun f cdv A outer s H E g hr => ⟨_, (pss_cons (ps_set (i := 1) sc_l_width.nd rfl (by first | exact .inl rfl | exact .inr rfl) (pe_ix ix_list (peD D_l_counts g hr (by first | decide | exact Nat.le_refl _ | omega) (by rfl) (pa_cons (pe_ix ix_tup (pv 0) pe_int (fun _ _ => rfl)) (pa_cons (pe_ix ix_tup (pv 0) pe_int (fun _ _ => rfl)) pa_nil))) (pe_ix ix_tup (pv 0) pe_int (fun _ _ => rfl)) (fun _ _ => rfl)))
      (pss_cons (ps_if (pt_cmpR op_eq (pv 1) pe_int (nomark _)) (pss_one (ps_ret pe_int)) pss_nil)
      (pss_cons (ps_par3 (i := 2) (j := 3) (l := 4) (by rfl) sc_l_width.nd rfl rfl rfl (by decide) (by decide) (by decide) rfl rfl rfl (pa_cons pe_int (pa_cons (pe_op op_mulA (pe_op op_mulA (pe_op op_mulA (pe_op op_mulA (pe_op op_mulA pe_int pe_int) pe_int) pe_int) (pe_op op_add (pe_ix ix_tup (pv 0) pe_int (fun _ _ => rfl)) (pe_ix ix_tup (pv 0) pe_int (fun _ _ => rfl)))) pe_int) (pa_cons pe_int pa_nil))) (by rfl))
      (pss_cons (ps_while PassesOwn.never (pt_cmpR op_le (pe_op op_mulA pe_int (pv 4)) (pv 1) (nomark _)) (pss_one (ps_set (i := 4) sc_l_width.nd rfl (by first | exact .inl rfl | exact .inr rfl) (pe_op op_mulA pe_int (pv 4)))))
      (pss_cons (ps_while PassesOwn.never (pt_cmpR op_le (pv 3) (pv 4) (nomark _)) (pss_one (ps_par (i := 2) (j := 3) (by rfl) sc_l_width.nd rfl rfl (by decide) rfl rfl (pa_cons (pe_op op_add (pv 2) pe_int) (pa_cons (pe_op op_mulA (pv 3) pe_int) pa_nil)) (by rfl))))
      (pss_one (ps_ret (pv 2)))))))), ?_⟩
  try dsimp only [cxOf]
  rintro ds po ⟨c, dr, sh, le, lo, most, n, many, spare, rfl, h, rfl⟩
  have hb := h.b
  have m9 := h.m9
  have m1 := h.m1
  have s9 := h.s9
  have o5 : IntMulOk (2097152 : Int) ((many : Int) + (spare : Int)) := mulL (by omega)
  have o6 : IntMulOk (2097152 * ((many : Int) + (spare : Int))) 97 := mulL (by omega)
  repeat' walk_at "yy"
  refine c_lcounts lo most n rfl rfl rfl hb ?_
  repeat' (first | refine o_ixL (cnts_at (lo := lo) (most := most) (n := n) rfl (Nat.le_refl n)) ?_ | walk_at "yy")
  · have c0 : cntL lo most n = 0 := of_decide_eq_true ‹_›
    show PyData.int _ = PyData.int _
    unfold fW
    rw [if_neg (by omega)]
    rfl
  · have c0 : ¬ cntL lo most n = 0 := of_decide_eq_false ‹_›
    have cp : 0 < cntL lo most n := by have := cntL_nn lo most n; omega
    have bigk := big_ok h
    have lt2 := Nat.lt_log2_self (n := (cntL lo most n).toNat)
    have eW := fun w => fW_eq (many := many) (spare := spare) (w := w) cp
    have cb : (cntL lo most n).toNat < 2 ^ 450 := Nat.lt_of_lt_of_le lt2 (Nat.pow_le_pow_right (by decide) (by omega))
    have eN : (64 * 256 * 64 * 2 * ((many : Int) + (spare : Int)) * 97 : Int) = ((base0 many spare * 97 : Nat) : Int) := by
      show _ = ((2097152 * (many + spare) * 97 : Nat) : Int)
      omega
    refine sj_par3 ?_
    repeat' (first | refine o_mul (mulL (by omega)) ?_ | walk_at "yy")
    refine ⟨_, _, _, rfl, ?_⟩
    repeat' walk_at "yy"
    refine sj_while (fun m es M => ∃ (j sz : Nat), sz = 2 ^ j ∧ (sz : Int) ≤ cntL lo most n ∧ m = (cntL lo most n).toNat - sz ∧ es = [.dat (frmD c dr sh lo most le n many spare), .dat (.int (cntL lo most n)), .dat (.int 0), .dat (.int ((base0 many spare * 97 : Nat) : Int)), .dat (.int (sz : Int))] ∧ M = []) ((cntL lo most n).toNat - 1) ⟨0, 1, rfl, by omega, rfl, (by rw [← eN]; rfl), rfl⟩ ?_
    rintro m es M ⟨j, sz, esz, hsz, rfl, rfl, rfl⟩
    have s1 : 1 ≤ sz := by rw [esz]; exact Nat.pow_pos (by decide)
    have bs : Bd 500 (sz : Int) := by
      show Int.natAbs (sz : Int) < 2 ^ 500
      rw [Int.natAbs_natCast]
      have : (2 : Nat) ^ 450 < 2 ^ 500 := by decide
      omega
    have o2 : IntMulOk (2 : Int) (sz : Int) := Bd.ok (j := 10) (by show _ < _; decide) bs (by decide) (by decide) (by decide)
    repeat' (first | refine o_mul o2 ?_ | walk_at "yy")
    · have c1 : 2 * (sz : Int) ≤ cntL lo most n := of_decide_eq_true ‹_›
      refine ⟨(cntL lo most n).toNat - 2 * sz, by omega, j + 1, 2 * sz, by rw [esz, Nat.pow_succ]; omega, by omega, rfl, rfl, rfl⟩
    · have c1 : ¬ 2 * (sz : Int) ≤ cntL lo most n := of_decide_eq_false ‹_›
      have ej : (cntL lo most n).toNat.log2 = j := (Nat.log2_eq_iff (by omega)).mpr ⟨by rw [← esz]; omega, by rw [Nat.pow_succ, ← esz]; omega⟩
      rw [ej, ← esz] at eW
      repeat' walk_at "yy"
      refine sj_while (fun m es M => ∃ (w big : Nat), big = base0 many spare * 97 ^ (w + 1) ∧ m = sz + 1 - big ∧ es = [.dat (frmD c dr sh lo most le n many spare), .dat (.int (cntL lo most n)), .dat (.int (w : Int)), .dat (.int (big : Int)), .dat (.int (sz : Int))] ∧ (∀ v, v < w → base0 many spare * 97 ^ (v + 1) ≤ sz) ∧ M = []) (sz + 1 - base0 many spare * 97) ⟨0, base0 many spare * 97, rfl, rfl, rfl, (fun v hv => absurd hv (by omega)), rfl⟩ ?_
      rintro m es M ⟨w, big, ebig, rfl, rfl, hv, rfl⟩
      repeat' walk_at "yy"
      · have c1 : (big : Int) ≤ (sz : Int) := of_decide_eq_true ‹_›
        have b1 : 1 ≤ big := by
          rw [ebig]
          exact Nat.mul_pos (Nat.mul_pos (by decide) (by omega)) (Nat.pow_pos (by decide))
        refine ⟨sz + 1 - big * 97, by omega, w + 1, big * 97, ?_, rfl, rfl, fun v hv2 => ?_, rfl⟩
        · rw [ebig, Nat.pow_succ 97 (w + 1), Nat.mul_assoc]
        · by_cases e : v = w
          · rw [e, ← ebig]
            omega
          · exact hv v (by omega)
      · have c1 : ¬ (big : Int) ≤ (sz : Int) := of_decide_eq_false ‹_›
        show PyData.int _ = PyData.int _
        rw [eW w ⟨by rw [← ebig]; omega, hv⟩]
end
end K53

set_option Elab.async false
set_option linter.all false
set_option maxRecDepth 100000
set_option maxHeartbeats 1000000
set_option exponentiation.threshold 20000
namespace K53
open PySem PySem.Spec PyProof.Rows L2 Yw
local macro_rules | `(tactic| walk_at "ye") => `(tactic| first
  | ((with_reducible show Ev _ (tVar _) _ _ _); first | refine ev_dat rfl ?_ | refine ev_ref rfl ?_ | refine ev_var rfl (fun z => nomatch z) ?_)
  | ((with_reducible show Ev _ (tC _) _ _ _); first | with_reducible refine ev_int ?_ | with_reducible refine ev_bl ?_ | with_reducible refine ev_non ?_ | with_reducible refine ev_str ?_ | with_reducible refine ev_ty ?_)
  | with_reducible refine ev_op ?_
  | with_reducible refine ev_un ?_
  | with_reducible refine ev_go ?_
  | with_reducible refine ev_cb ?_
  | with_reducible refine ev_tupD ?_
  | with_reducible refine ev_lstD ?_
  | with_reducible refine ev_chain ?_
  | with_reducible refine ev_if ?_
  | with_reducible refine ev_andV ?_
  | with_reducible refine ev_orV ?_
  | with_reducible refine ev_notV ?_
  | with_reducible refine ev_sl ?_
  | with_reducible refine ev_bm ?_)
local macro_rules | `(tactic| walk_at "ya") => `(tactic| first
  | with_reducible refine ea_cons ?_
  | with_reducible refine ea_nil ?_
  | with_reducible refine eo_none ?_
  | with_reducible refine eo_some ?_
  | with_reducible refine et_test ?_
  | with_reducible refine et_B ?_
  | with_reducible refine et_and ?_
  | with_reducible refine et_or ?_
  | with_reducible refine et_not ?_
  | with_reducible refine et_yes ?_
  | with_reducible refine tg_name ?_
  | with_reducible refine tgs_nil ?_
  | with_reducible refine tgs_cons ?_
  | ((with_reducible show Tg _ (gTup _ _ _) _ _ _ _); refine tg_tup rfl ?_)
  | with_reducible refine tg_sub ?_)
local macro_rules | `(tactic| walk_at "ys") => `(tactic| first
  | with_reducible refine sj_seq ?_
  | with_reducible refine sj_next ?_
  | with_reducible refine sj_newD ?_
  | with_reducible refine sj_set ?_
  | with_reducible refine sj_par ?_
  | with_reducible refine sj_ret ?_
  | with_reducible refine sj_drop ?_
  | with_reducible refine sj_if ?_
  | with_reducible refine sj_asg ?_
  | with_reducible refine sj_augS ?_
  | with_reducible refine iw_seq ?_
  | with_reducible refine iw_zip ?_
  | with_reducible refine iw_list ?_
  | with_reducible refine iw_tup ?_
  | with_reducible refine iw_r1 ?_
  | with_reducible refine iw_r2 ?_
  | with_reducible refine iw_enumT ?_)
local macro_rules | `(tactic| walk_at "yo") => `(tactic| first
  | with_reducible refine o_int ?_
  | with_reducible refine o_bool ?_
  | with_reducible refine o_mul (by first | exact mulR ⟨by decide, by decide⟩ | exact mulL ⟨by decide, by decide⟩) ?_
  | with_reducible refine o_mul ?_ ?_
  | with_reducible refine o_mod (by decide) ?_
  | with_reducible refine o_mod ?_ ?_
  | with_reducible refine o_div (by decide) (by decide +kernel) ?_
  | with_reducible refine o_cat ?_ ?_
  | with_reducible refine o_catT ?_ ?_
  | ((with_reducible show Op2 _ (rIxL _) (Ent.ref _) _ _ _); refine o_ixM (List.Mem.head _) rfl ?_)
  | with_reducible refine o_eqI ?_
  | with_reducible refine o_neI ?_
  | with_reducible refine o_eqS ?_
  | with_reducible refine o_neS ?_
  | with_reducible refine o_neg ?_
  | ((with_reducible show Op2 _ (rIxT _) _ _ _ _); refine o_ixT rfl ?_)
  | ((with_reducible show Op2 _ (rIxL _) (Ent.dat _) _ _ _); refine o_ixL rfl ?_)
  | ((with_reducible show Op2 _ (rI CPow _) _ _ _ _); refine o_pow ⟨by decide, by decide, by decide⟩ rfl ?_)
  | with_reducible refine c_abs ?_
  | with_reducible refine c_int ?_
  | with_reducible refine c_min2 ?_
  | with_reducible refine c_max2 ?_
  | with_reducible refine c_gcd ?_
  | with_reducible refine sl_L ?_
  | with_reducible refine c_len (.lst _) ?_
  | with_reducible refine c_len (.tup _) ?_)
local macro_rules | `(tactic| walk_at "yx") => `(tactic| first
  | with_reducible refine ⟨_, rfl, ?_⟩
  | with_reducible refine ⟨_, _, rfl, ?_⟩
  | with_reducible refine ⟨fun _ => ?_, fun _ => ?_⟩
  | ((with_reducible show ∃ _ _ _ _ _ _, _ = _ ∧ _ = _ ∧ _ = _ ∧ _ = _ ∧ _); refine ⟨[], _, _, _, _, _, rfl, rfl, rfl, rfl, ?_⟩)
  | ((with_reducible show ∃ _ _ _ _ _, _ = _ ∧ _ = _ ∧ _ ∧ _ ∧ _ ∧ _ = _ ∧ _ = _ ∧ _); refine ⟨_, _, _, _, _, rfl, rfl, List.Mem.head _, by decide, by decide, rfl, rfl, ?_⟩)
  | ((with_reducible show ∃ _ _ _, _ = _ ∧ _ = _ ∧ _); refine ⟨[], _, _, rfl, rfl, ?_⟩)
  | ((with_reducible show ∃ _, Ds _ _ ∧ _ ∧ _); refine ⟨_, (by repeat (first | exact Ds.nil | apply Ds.cons)), (by simp), ?_⟩))
local macro_rules | `(tactic| walk_at "yy") => `(tactic| first | walk_at "ye" | walk_at "ya" | walk_at "ys" | walk_at "yo" | walk_at "yx" | walk_at "yc")

/-! ### how many rows there are at least, and how wide a word is -/
def gC (lo most : Nat) : Nat → List Int
  | 0 => [1]
  | n + 1 => (((gC lo most n).drop (lo - 1)).take (most + 1 - lo)).sum :: gC lo most n
theorem gC_eq {lo most : Nat} (h1 : 1 ≤ lo) : ∀ n, gC lo most n = (List.range (n + 1)).map fun j => cntL lo most (n - j)
  | 0 => by
    show [1] = [cntL lo most 0]
    unfold cntL
    rw [rowsL_zero]
    rfl
  | n + 1 => by
    have e : (List.range (n + 1 + 1)).map (fun j => cntL lo most (n + 1 - j)) = cntL lo most (n + 1) :: (List.range (n + 1)).map fun j => cntL lo most (n - j) := by
      rw [List.range_succ_eq_map, List.map_cons, List.map_map]
      congr 1
      refine List.map_congr_left fun j _ => ?_
      show cntL lo most (n + 1 - (j + 1)) = _
      rw [Nat.add_sub_add_right]
    rw [e]
    show _ :: gC lo most n = _
    rw [gC_eq h1 n]
    congr 1
    rw [cntL_eq h1 (by omega)]
    congr 1
    refine List.ext_getElem ?_ fun j h2 h3 => ?_
    · simp only [List.length_take, List.length_drop, List.length_map, List.length_range, List.length_range']
      omega
    · simp only [List.getElem_take, List.getElem_drop, List.getElem_map, List.getElem_range, List.getElem_range', Nat.one_mul]
      congr 1
      omega
theorem sum_nn0 : ∀ {l : List Int}, (∀ x ∈ l, 0 ≤ x) → 0 ≤ l.sum
  | [], _ => by simp
  | x :: l, h => by
    have a := h x List.mem_cons_self
    have b := sum_nn0 (l := l) fun y hy => h y (List.mem_cons_of_mem _ hy)
    rw [List.sum_cons]
    omega
theorem win_big {lo most : Nat} (h1 : 1 ≤ lo) (c : ((gC lo most 114).take 7).all (fun z => decide (4294967296 ≤ z)) = true) : ∀ k, 108 ≤ k → k ≤ 114 → 4294967296 ≤ cntL lo most k := fun k a b => by
  rw [gC_eq h1, List.all_eq_true] at c
  have m : cntL lo most k ∈ ((List.range (114 + 1)).map fun j => cntL lo most (114 - j)).take 7 := by
    refine List.mem_of_getElem? (i := 114 - k) ?_
    rw [List.getElem?_take, if_pos (by omega), List.getElem?_map, List.getElem?_range (by omega)]
    show some (cntL lo most (114 - (114 - k))) = _
    rw [show 114 - (114 - k) = k by omega]
  exact of_decide_eq_true (c _ m)
theorem cnt_big {lo most : Nat} (c : (lo = 2 ∧ most = 3) ∨ (lo = 3 ∧ most = 5) ∨ (lo = 4 ∧ most = 7)) : ∀ (k n : Nat), n ≤ k → 108 ≤ n → 4294967296 ≤ cntL lo most n
  | 0, n, h, g => by omega
  | k + 1, n, h, g => by
    have h1 : 1 ≤ lo := by omega
    have h4 : lo ≤ 4 := by omega
    by_cases d : n ≤ 114
    · refine win_big h1 ?_ n g d
      rcases c with ⟨rfl, rfl⟩ | ⟨rfl, rfl⟩ | ⟨rfl, rfl⟩ <;> decide +kernel
    · rw [cntL_eq h1 (by omega)]
      have e : min most n + 1 - lo = (min most n - lo) + 1 := by omega
      rw [e, List.range'_succ, List.map_cons, List.sum_cons]
      have a := cnt_big c k (n - lo) (by omega) (by omega)
      have b := sum_nn0 (l := (List.range' (lo + 1) (min most n - lo)).map fun r => cntL lo most (n - r)) fun x hx => by
        obtain ⟨r, _, rfl⟩ := List.mem_map.mp hx
        exact cntL_nn _ _ _
      omega
theorem isW_ex {sz b : Nat} (hb : 1 ≤ b) : ∀ n, sz < b * 97 ^ (n + 1) → ∃ w, IsW sz b w
  | 0, h => ⟨0, h, fun v hv => absurd hv (by omega)⟩
  | n + 1, h => by
    by_cases c : sz < b * 97 ^ (n + 1)
    · exact isW_ex hb n c
    · refine ⟨n + 1, h, fun v hv => ?_⟩
      have := Nat.mul_le_mul_left b (Nat.pow_le_pow_right (show 0 < 97 by decide) (show v + 1 ≤ n + 1 by omega))
      omega
theorem isW_le {sz b w : Nat} (hb : 1 ≤ b) (hs : sz ≤ 2 ^ 400) (h : IsW sz b w) : w ≤ 100 := by
  by_cases c : w = 0
  · omega
  · have h1 := h.2 (w - 1) (by omega)
    rw [show w - 1 + 1 = w by omega] at h1
    have h2 : 97 ^ w ≤ b * 97 ^ w := Nat.le_mul_of_pos_left _ hb
    have h3 : (64 : Nat) ^ w ≤ 97 ^ w := Nat.pow_le_pow_left (by decide) w
    have h4 : (2 : Nat) ^ (6 * w) ≤ 2 ^ 400 := by
      rw [Nat.pow_mul]
      show 64 ^ w ≤ _
      omega
    have := (Nat.pow_le_pow_iff_right (show 1 < 2 by decide)).mp h4
    omega
theorem isW_have {lo most n many spare : Nat} (h : FmOk lo most n many spare) : ∃ w, IsW (2 ^ (cntL lo most n).toNat.log2) (base0 many spare) w := by
  have b1 : 1 ≤ base0 many spare := Nat.mul_pos (by decide) (by have := h.m1; omega)
  refine isW_ex b1 (2 ^ (cntL lo most n).toNat.log2) ?_
  have e1 := Nat.lt_pow_self (n := 2 ^ (cntL lo most n).toNat.log2 + 1) (show 1 < 97 by decide)
  have e2 : 97 ^ (2 ^ (cntL lo most n).toNat.log2 + 1) ≤ base0 many spare * 97 ^ (2 ^ (cntL lo most n).toNat.log2 + 1) := Nat.le_mul_of_pos_left _ b1
  exact Nat.lt_of_lt_of_le (Nat.lt_trans (Nat.lt_succ_self _) e1) e2
theorem fW_le {lo most n many spare : Nat} (h : FmOk lo most n many spare) : fW lo most n many spare ≤ 100 := by
  unfold fW
  split
  · have b1 : 1 ≤ base0 many spare := Nat.mul_pos (by decide) (by have := h.m1; omega)
    have sz := Nat.pow_le_pow_right (show 0 < 2 by decide) (big_ok h)
    obtain ⟨w, hw⟩ := isW_have h
    rw [hw.eq]
    exact isW_le b1 sz hw
  · omega
theorem fW_pos {lo most n many spare : Nat} (h : FmOk lo most n many spare) (c : (lo = 2 ∧ most = 3) ∨ (lo = 3 ∧ most = 5) ∨ (lo = 4 ∧ most = 7)) (hn : 108 ≤ n) (hs : many + spare ≤ 15) : 0 < fW lo most n many spare := by
  have big := cnt_big c n n (Nat.le_refl _) hn
  obtain ⟨w, hw⟩ := isW_have h
  unfold fW
  rw [if_pos (by omega), hw.eq]
  by_cases z : w = 0
  · subst z
    have a := hw.1
    have hl : 32 ≤ (cntL lo most n).toNat.log2 := (Nat.le_log2 (by omega)).mpr (by
      show 4294967296 ≤ _
      omega)
    have b := Nat.pow_le_pow_right (show 0 < 2 by decide) hl
    have e : (2 : Nat) ^ 32 = 4294967296 := rfl
    rw [e] at b
    have d : base0 many spare * 97 ^ (0 + 1) = 2097152 * (many + spare) * 97 := rfl
    omega
  · omega
section
variable {P : Program} {w : World} {K : PySem.W.Frag} {mg : Str → Option Value} {base : Heap}

end
end K53

set_option Elab.async false
set_option linter.all false
set_option maxRecDepth 100000
set_option maxHeartbeats 1000000
set_option exponentiation.threshold 20000
namespace K53
open PySem PySem.Spec PyProof.Rows L2 Yw
local macro_rules | `(tactic| walk_at "ye") => `(tactic| first
  | ((with_reducible show Ev _ (tVar _) _ _ _); first | refine ev_dat rfl ?_ | refine ev_ref rfl ?_ | refine ev_var rfl (fun z => nomatch z) ?_)
  | ((with_reducible show Ev _ (tC _) _ _ _); first | with_reducible refine ev_int ?_ | with_reducible refine ev_bl ?_ | with_reducible refine ev_non ?_ | with_reducible refine ev_str ?_ | with_reducible refine ev_ty ?_)
  | with_reducible refine ev_op ?_
  | with_reducible refine ev_un ?_
  | with_reducible refine ev_go ?_
  | with_reducible refine ev_cb ?_
  | with_reducible refine ev_tupD ?_
  | with_reducible refine ev_lstD ?_
  | with_reducible refine ev_chain ?_
  | with_reducible refine ev_if ?_
  | with_reducible refine ev_andV ?_
  | with_reducible refine ev_orV ?_
  | with_reducible refine ev_notV ?_
  | with_reducible refine ev_sl ?_
  | with_reducible refine ev_bm ?_)
local macro_rules | `(tactic| walk_at "ya") => `(tactic| first
  | with_reducible refine ea_cons ?_
  | with_reducible refine ea_nil ?_
  | with_reducible refine eo_none ?_
  | with_reducible refine eo_some ?_
  | with_reducible refine et_test ?_
  | with_reducible refine et_B ?_
  | with_reducible refine et_and ?_
  | with_reducible refine et_or ?_
  | with_reducible refine et_not ?_
  | with_reducible refine et_yes ?_
  | with_reducible refine tg_name ?_
  | with_reducible refine tgs_nil ?_
  | with_reducible refine tgs_cons ?_
  | ((with_reducible show Tg _ (gTup _ _ _) _ _ _ _); refine tg_tup rfl ?_)
  | with_reducible refine tg_sub ?_)
local macro_rules | `(tactic| walk_at "ys") => `(tactic| first
  | with_reducible refine sj_seq ?_
  | with_reducible refine sj_next ?_
  | with_reducible refine sj_newD ?_
  | with_reducible refine sj_set ?_
  | with_reducible refine sj_par ?_
  | with_reducible refine sj_ret ?_
  | with_reducible refine sj_drop ?_
  | with_reducible refine sj_if ?_
  | with_reducible refine sj_asg ?_
  | with_reducible refine sj_augS ?_
  | with_reducible refine iw_seq ?_
  | with_reducible refine iw_zip ?_
  | with_reducible refine iw_list ?_
  | with_reducible refine iw_tup ?_
  | with_reducible refine iw_r1 ?_
  | with_reducible refine iw_r2 ?_
  | with_reducible refine iw_enumT ?_)
local macro_rules | `(tactic| walk_at "yo") => `(tactic| first
  | with_reducible refine o_int ?_
  | with_reducible refine o_bool ?_
  | with_reducible refine o_mul (by first | exact mulR ⟨by decide, by decide⟩ | exact mulL ⟨by decide, by decide⟩) ?_
  | with_reducible refine o_mul ?_ ?_
  | with_reducible refine o_mod (by decide) ?_
  | with_reducible refine o_mod ?_ ?_
  | with_reducible refine o_div (by decide) (by decide +kernel) ?_
  | with_reducible refine o_cat ?_ ?_
  | with_reducible refine o_catT ?_ ?_
  | ((with_reducible show Op2 _ (rIxL _) (Ent.ref _) _ _ _); refine o_ixM (List.Mem.head _) rfl ?_)
  | with_reducible refine o_eqI ?_
  | with_reducible refine o_neI ?_
  | with_reducible refine o_eqS ?_
  | with_reducible refine o_neS ?_
  | with_reducible refine o_neg ?_
  | ((with_reducible show Op2 _ (rIxT _) _ _ _ _); refine o_ixT rfl ?_)
  | ((with_reducible show Op2 _ (rIxL _) (Ent.dat _) _ _ _); refine o_ixL rfl ?_)
  | ((with_reducible show Op2 _ (rI CPow _) _ _ _ _); refine o_pow ⟨by decide, by decide, by decide⟩ rfl ?_)
  | with_reducible refine c_abs ?_
  | with_reducible refine c_int ?_
  | with_reducible refine c_min2 ?_
  | with_reducible refine c_max2 ?_
  | with_reducible refine c_gcd ?_
  | with_reducible refine sl_L ?_
  | with_reducible refine c_len (.lst _) ?_
  | with_reducible refine c_len (.tup _) ?_)
local macro_rules | `(tactic| walk_at "yx") => `(tactic| first
  | with_reducible refine ⟨_, rfl, ?_⟩
  | with_reducible refine ⟨_, _, rfl, ?_⟩
  | with_reducible refine ⟨fun _ => ?_, fun _ => ?_⟩
  | ((with_reducible show ∃ _ _ _ _ _ _, _ = _ ∧ _ = _ ∧ _ = _ ∧ _ = _ ∧ _); refine ⟨[], _, _, _, _, _, rfl, rfl, rfl, rfl, ?_⟩)
  | ((with_reducible show ∃ _ _ _ _ _, _ = _ ∧ _ = _ ∧ _ ∧ _ ∧ _ ∧ _ = _ ∧ _ = _ ∧ _); refine ⟨_, _, _, _, _, rfl, rfl, List.Mem.head _, by decide, by decide, rfl, rfl, ?_⟩)
  | ((with_reducible show ∃ _ _ _, _ = _ ∧ _ = _ ∧ _); refine ⟨[], _, _, rfl, rfl, ?_⟩)
  | ((with_reducible show ∃ _, Ds _ _ ∧ _ ∧ _); refine ⟨_, (by repeat (first | exact Ds.nil | apply Ds.cons)), (by simp), ?_⟩))
local macro_rules | `(tactic| walk_at "yy") => `(tactic| first | walk_at "ye" | walk_at "ya" | walk_at "ys" | walk_at "yo" | walk_at "yx" | walk_at "yc")

local macro_rules | `(tactic| walk_at "yc") => `(tactic| first | with_reducible refine c_take ?_ ?_ ?_)
/-! ### a form that has room -/
def rRoomy : RR := fun ds po => ds = [] ∧ po = fun r => ∃ c dr sh le, ∃ (lo most n many spare : Nat), r = frmD c dr sh lo most le n many spare ∧ FmOk lo most n many spare ∧ many ≤ 10 ∧ spare ≤ 5 ∧ 0 < fW lo most n many spare
section
variable {K : PySem.W.Frag} {M : MM} {Q : Ent → MM → Prop}
theorem c_watch {D S : Int × Int} {lo most le : Nat} (h : BdOk D S lo most le) (hg : most < 2 * lo) (p : ∀ z : Int, Q (.dat (.int z)) M) : Cb K (fun vs H Q => SpQ K rWatch vs H Q E0) [.dat (frq D), .dat (frq S), .dat (.int (lo : Int)), .dat (.int (most : Int)), .dat (.int (le : Int))] M Q := c_Q (.cons (.cons (.cons (.cons (.cons .nil))))) _ ⟨D, S, lo, most, le, rfl, h, hg, rfl⟩ fun r ⟨z, e⟩ => by rw [e]; exact p z
end
section
variable {P : Program} {w : World} {K : PySem.W.Frag} {mg : Str → Option Value} {base : Heap}
set_option maxHeartbeats 4000000 in
theorem ok_l_roomy (B : Bt mg) (D_l_some : Has P w K mg base 2 "_law_some" ["bag", "things"] (SpD K rSome)) (D_l_size : Has P w K mg base 3 "_law_size" ["bag"] (SpD K rSizeL)) (D_l_least_watchful : Has P w K mg base 7 "_law_least_watchful" ["drift", "shift", "lo", "most", "lead"] (SpQ K rWatch)) (D_l_width : Has P w K mg base 2 "_law_width" ["form"] (SpQ K rWidth)) (D_l_take : Has P w K mg base 1 "_law_take" ["bag", "many"] (SpD K rTake)) (T : Stands K mg "_law_roomy" s_l_roomy ["bag"]) : Has P w K mg base 8 "_law_roomy" ["bag"] (SpD K rRoomy) := by
  refine hasD T sc_l_roomy (fun ds po ⟨e, _⟩ => by rw [e]; rfl) 10 rfl fun f cdv A outer s H E g hr => ⟨_, (pss_cons (ps_asg (peD D_l_some g hr (by first | decide | exact Nat.le_refl _ | omega) (by rfl) (pa_cons (pv 0) (pa_cons (pe_lst (pa_cons (pe_tup (pa_cons pe_int (pa_cons pe_int pa_nil))) (pa_cons (pe_tup (pa_cons pe_int (pa_cons pe_int pa_nil))) (pa_cons (pe_tup (pa_cons pe_int (pa_cons pe_int pa_nil))) (pa_cons (pe_tup (pa_cons pe_int (pa_cons pe_int pa_nil))) pa_nil))))) pa_nil))) (pg_tup rfl (pgs_cons (pg_name (i := 1) sc_l_roomy.nd rfl (by first | exact .inl rfl | exact .inr rfl)) (pgs_cons (pg_name (i := 2) sc_l_roomy.nd rfl (by first | exact .inl rfl | exact .inr rfl)) pgs_nil))))
      (pss_cons (ps_par3 (i := 3) (j := 4) (l := 5) (by rfl) sc_l_roomy.nd rfl rfl rfl (by decide) (by decide) (by decide) rfl rfl rfl (pa_cons (peD D_l_size g hr (by first | decide | exact Nat.le_refl _ | omega) (by rfl) (pa_cons (pv 0) pa_nil)) (pa_cons (peD D_l_size g hr (by first | decide | exact Nat.le_refl _ | omega) (by rfl) (pa_cons (pv 0) pa_nil)) (pa_cons (peD D_l_some g hr (by first | decide | exact Nat.le_refl _ | omega) (by rfl) (pa_cons (pv 0) (pa_cons (pe_lst (pa_cons pe_int (pa_cons pe_int (pa_cons pe_int (pa_cons pe_int pa_nil))))) pa_nil))) pa_nil))) (by rfl))
      (pss_cons (ps_set (i := 6) sc_l_roomy.nd rfl (by first | exact .inl rfl | exact .inr rfl) (pe_op op_add (peD D_l_least_watchful g hr (by first | decide | exact Nat.le_refl _ | omega) (by rfl) (pa_cons (pv 3) (pa_cons (pv 4) (pa_cons (pv 1) (pa_cons (pv 2) (pa_cons (pv 5) pa_nil)))))) (peD D_l_some g hr (by first | decide | exact Nat.le_refl _ | omega) (by rfl) (pa_cons (pv 0) (pa_cons (pe_lst (pa_cons pe_int (pa_cons pe_int (pa_cons pe_int pa_nil)))) pa_nil)))))
      (pss_cons (ps_par (i := 7) (j := 8) (by rfl) sc_l_roomy.nd rfl rfl (by decide) rfl rfl (pa_cons (pe_op op_add pe_int (peD D_l_some g hr (by first | decide | exact Nat.le_refl _ | omega) (by rfl) (pa_cons (pv 0) (pa_cons (pe_lst (pa_cons (peD D_l_take g hr (by first | decide | exact Nat.le_refl _ | omega) (by rfl) (pa_cons (pv 0) (pa_cons pe_int pa_nil))) (pa_cons (peD D_l_take g hr (by first | decide | exact Nat.le_refl _ | omega) (by rfl) (pa_cons (pv 0) (pa_cons pe_int pa_nil))) pa_nil))) pa_nil)))) (pa_cons (peD D_l_some g hr (by first | decide | exact Nat.le_refl _ | omega) (by rfl) (pa_cons (pv 0) (pa_cons (pe_lst (pa_cons pe_int (pa_cons pe_int (pa_cons pe_int (pa_cons pe_int (pa_cons pe_int pa_nil)))))) pa_nil))) pa_nil)) (by rfl))
      (pss_cons (ps_set (i := 9) sc_l_roomy.nd rfl (by first | exact .inl rfl | exact .inr rfl) (peD D_l_some g hr (by first | decide | exact Nat.le_refl _ | omega) (by rfl) (pa_cons (pv 0) (pa_cons (pe_lst (pa_cons (pe_op op_add pe_int (peD D_l_take g hr (by first | decide | exact Nat.le_refl _ | omega) (by rfl) (pa_cons (pv 0) (pa_cons pe_int pa_nil)))) (pa_cons (pe_op op_add pe_int (peD D_l_take g hr (by first | decide | exact Nat.le_refl _ | omega) (by rfl) (pa_cons (pv 0) (pa_cons pe_int pa_nil)))) (pa_cons (pe_op op_add pe_int (peD D_l_take g hr (by first | decide | exact Nat.le_refl _ | omega) (by rfl) (pa_cons (pv 0) (pa_cons pe_int pa_nil)))) pa_nil)))) pa_nil))))
      (pss_cons (ps_set (i := 10) sc_l_roomy.nd rfl (by first | exact .inl rfl | exact .inr rfl) (pe_tup (pa_cons (pe_tup (pa_cons (pv 6) (pa_cons (pv 3) (pa_cons (pv 4) (pa_cons (pv 1) (pa_cons (pv 2) (pa_cons (pv 5) pa_nil))))))) (pa_cons (pv 9) (pa_cons (pv 7) (pa_cons (pv 8) pa_nil))))))
      (pss_one (ps_ret (pe_ifExp (pt_cmpR op_gt (peD D_l_width g hr (by first | decide | exact Nat.le_refl _ | omega) (by rfl) (pa_cons (pv 10) pa_nil)) pe_int (nomark _)) (pv 10) (pe_op op_catA (pe_op op_catA (pe_slice sl_tupA (pv 10) po_none (po_some pe_int)) (pe_tup (pa_cons (pe_op op_add (pe_ix ix_tup (pv 10) pe_int (fun _ _ => rfl)) pe_int) pa_nil))) (pe_slice sl_tupA (pv 10) (po_some pe_int) po_none))))))))))), ?_⟩
  try dsimp only [cxOf]
  rintro b C ds po ⟨rfl, rfl⟩
  repeat' walk_at "yy"
  refine c_some (by simp) (by simp) fun d C1 hd => ?_
  obtain ⟨lo, most, rfl, q1, q2, q3, q4, q5⟩ : ∃ lo most : Nat, d = .tuple [.int (lo : Int), .int (most : Int)] ∧ 1 ≤ lo ∧ lo ≤ most ∧ most ≤ 8 ∧ most < 2 * lo ∧ ((lo = 2 ∧ most = 3) ∨ (lo = 3 ∧ most = 5) ∨ (lo = 4 ∧ most = 7)) := by
    simp only [List.mem_cons, List.not_mem_nil, or_false] at hd
    rcases hd with e | e | e | e
    · exact ⟨2, 3, e, by decide⟩
    · exact ⟨3, 5, e, by decide⟩
    · exact ⟨2, 3, e, by decide⟩
    · exact ⟨4, 7, e, by decide⟩
  clear hd
  repeat' walk_at "yy"
  refine sj_par3 ?_
  repeat' walk_at "yy"
  refine c_sizeL fun a1 b1 C2 hD => ?_
  repeat' walk_at "yy"
  refine c_sizeL fun a2 b2 C3 hS => ?_
  repeat' walk_at "yy"
  refine c_some (by simp) (by simp) fun d C4 hd => ?_
  obtain ⟨le, rfl, e1, e8⟩ : ∃ le : Nat, d = .int (le : Int) ∧ 1 ≤ le ∧ le ≤ 8 := by
    simp only [List.mem_cons, List.not_mem_nil, or_false] at hd
    rcases hd with e | e | e | e
    · exact ⟨1, e, by decide⟩
    · exact ⟨2, e, by decide⟩
    · exact ⟨1, e, by decide⟩
    · exact ⟨3, e, by decide⟩
  clear hd
  have bq : BdOk (a1, b1) (a2, b2) lo most le := ⟨⟨hD, hS⟩, q1, q2, q3, e1, e8⟩
  repeat' walk_at "yy"
  refine ⟨_, _, _, rfl, ?_⟩
  repeat' walk_at "yy"
  refine c_watch (D := (a1, b1)) (S := (a2, b2)) bq q4 fun z => ?_
  repeat' walk_at "yy"
  refine c_some (by simp) (by simp) fun d C5 hd => ?_
  obtain ⟨z2, rfl⟩ : ∃ z2 : Int, d = .int z2 := by
    simp only [List.mem_cons, List.not_mem_nil, or_false] at hd
    rcases hd with e | e | e
    all_goals exact ⟨_, e⟩
  clear hd
  repeat' walk_at "yy"
  · decide
  · show _ < _; decide
  intro t1 C6 t10 t11
  repeat' walk_at "yy"
  · decide
  · show _ < _; decide
  intro t2 C7 t20 t21
  repeat' walk_at "yy"
  refine c_some (by simp) (by simp) fun d C8 hd => ?_
  obtain ⟨m, rfl, m9⟩ : ∃ m : Nat, d = .int (m : Int) ∧ m ≤ 9 := by
    simp only [List.mem_cons, List.not_mem_nil, or_false] at hd
    rcases hd with e | e
    · exact ⟨t1.toNat, by rw [e]; congr 1; omega, by omega⟩
    · exact ⟨t2.toNat, by rw [e]; congr 1; omega, by omega⟩
  clear hd
  repeat' walk_at "yy"
  refine c_some (by simp) (by simp) fun d C9 hd => ?_
  obtain ⟨sp, rfl, s9⟩ : ∃ sp : Nat, d = .int (sp : Int) ∧ sp ≤ 5 := by
    simp only [List.mem_cons, List.not_mem_nil, or_false] at hd
    rcases hd with e | e | e | e | e
    · exact ⟨1, e, by decide⟩
    · exact ⟨0, e, by decide⟩
    · exact ⟨2, e, by decide⟩
    · exact ⟨3, e, by decide⟩
    · exact ⟨5, e, by decide⟩
  clear hd
  repeat' walk_at "yy"
  · decide
  · show _ < _; decide
  intro t3 D1 t30 t31
  repeat' walk_at "yy"
  · decide
  · show _ < _; decide
  intro t4 D2 t40 t41
  repeat' walk_at "yy"
  · decide
  · show _ < _; decide
  intro t5 D3 t50 t51
  repeat' walk_at "yy"
  refine c_some (by simp) (by simp) fun d D4 hd => ?_
  obtain ⟨n, rfl, n9, n8⟩ : ∃ n : Nat, d = .int (n : Int) ∧ n ≤ 300 ∧ 78 ≤ n := by
    simp only [List.mem_cons, List.not_mem_nil, or_false] at hd
    rcases hd with e | e | e
    · exact ⟨(78 + t3).toNat, by rw [e]; congr 1; omega, by omega, by omega⟩
    · exact ⟨(78 + t4).toNat, by rw [e]; congr 1; omega, by omega, by omega⟩
    · exact ⟨(104 + t5).toNat, by rw [e]; congr 1; omega, by omega, by omega⟩
  clear hd
  have ok : ∀ n2 : Nat, n2 ≤ 400 → FmOk lo most n2 (1 + m) sp := fun n2 h2 => ⟨⟨q1, q2, by omega, by omega⟩, h2, by omega, by omega, by omega⟩
  repeat' walk_at "yy"
  refine c_width (n := n) (many := 1 + m) (spare := sp) (ok n (by omega)) ?_
  repeat' walk_at "yy"
  · exact ⟨⟨D4, [], rfl⟩, _, _, _, _, lo, most, n, 1 + m, sp, rfl, ok n (by omega), by omega, s9, by have := of_decide_eq_true ‹decide (0 < (fW lo most n (1 + m) sp : Int)) = true›; omega⟩
  · refine sl_T ?_
    rw [show ∀ (a b c d : PyData), cutY [a, b, c, d] none (some 1) = [a] from fun a b c d => rfl]
    repeat' walk_at "yy"
    · simp only [List.length_cons, List.length_nil]; omega
    refine sl_T ?_
    rw [show ∀ (a b c d : PyData), cutY [a, b, c, d] (some 2) none = [c, d] from fun a b c d => rfl]
    repeat' (first | walk_at "yy")
    all_goals first | (simp only [List.length_append, List.length_cons, List.length_nil]; omega) | skip
    exact ⟨⟨D4, [], rfl⟩, _, _, _, _, lo, most, n + 30, 1 + m, sp, rfl, ok (n + 30) (by omega), by omega, s9, fW_pos (ok (n + 30) (by omega)) q5 (by omega) (by omega)⟩
end
end K53

set_option Elab.async false
set_option linter.all false
set_option maxRecDepth 100000
set_option maxHeartbeats 1000000
set_option exponentiation.threshold 20000
namespace K53
open PySem PySem.Spec PyProof.Rows L2 Yw
local macro_rules | `(tactic| walk_at "ye") => `(tactic| first
  | ((with_reducible show Ev _ (tVar _) _ _ _); first | refine ev_dat rfl ?_ | refine ev_ref rfl ?_ | refine ev_var rfl (fun z => nomatch z) ?_)
  | ((with_reducible show Ev _ (tC _) _ _ _); first | with_reducible refine ev_int ?_ | with_reducible refine ev_bl ?_ | with_reducible refine ev_non ?_ | with_reducible refine ev_str ?_ | with_reducible refine ev_ty ?_)
  | with_reducible refine ev_op ?_
  | with_reducible refine ev_un ?_
  | with_reducible refine ev_go ?_
  | with_reducible refine ev_cb ?_
  | with_reducible refine ev_tupD ?_
  | with_reducible refine ev_lstD ?_
  | with_reducible refine ev_chain ?_
  | with_reducible refine ev_if ?_
  | with_reducible refine ev_andV ?_
  | with_reducible refine ev_orV ?_
  | with_reducible refine ev_notV ?_
  | with_reducible refine ev_sl ?_
  | with_reducible refine ev_bm ?_)
local macro_rules | `(tactic| walk_at "ya") => `(tactic| first
  | with_reducible refine ea_cons ?_
  | with_reducible refine ea_nil ?_
  | with_reducible refine eo_none ?_
  | with_reducible refine eo_some ?_
  | with_reducible refine et_test ?_
  | with_reducible refine et_B ?_
  | with_reducible refine et_and ?_
  | with_reducible refine et_or ?_
  | with_reducible refine et_not ?_
  | with_reducible refine et_yes ?_
  | with_reducible refine tg_name ?_
  | with_reducible refine tgs_nil ?_
  | with_reducible refine tgs_cons ?_
  | ((with_reducible show Tg _ (gTup _ _ _) _ _ _ _); refine tg_tup rfl ?_)
  | with_reducible refine tg_sub ?_)
local macro_rules | `(tactic| walk_at "ys") => `(tactic| first
  | with_reducible refine sj_seq ?_
  | with_reducible refine sj_next ?_
  | with_reducible refine sj_newD ?_
  | with_reducible refine sj_set ?_
  | with_reducible refine sj_par ?_
  | with_reducible refine sj_ret ?_
  | with_reducible refine sj_drop ?_
  | with_reducible refine sj_if ?_
  | with_reducible refine sj_asg ?_
  | with_reducible refine sj_augS ?_
  | with_reducible refine iw_seq ?_
  | with_reducible refine iw_zip ?_
  | with_reducible refine iw_list ?_
  | with_reducible refine iw_tup ?_
  | with_reducible refine iw_r1 ?_
  | with_reducible refine iw_r2 ?_
  | with_reducible refine iw_enumT ?_)
local macro_rules | `(tactic| walk_at "yo") => `(tactic| first
  | with_reducible refine o_int ?_
  | with_reducible refine o_bool ?_
  | with_reducible refine o_mul (by first | exact mulR ⟨by decide, by decide⟩ | exact mulL ⟨by decide, by decide⟩) ?_
  | with_reducible refine o_mul ?_ ?_
  | with_reducible refine o_mod (by decide) ?_
  | with_reducible refine o_mod ?_ ?_
  | with_reducible refine o_div (by decide) (by decide +kernel) ?_
  | with_reducible refine o_cat ?_ ?_
  | with_reducible refine o_catT ?_ ?_
  | ((with_reducible show Op2 _ (rIxL _) (Ent.ref _) _ _ _); refine o_ixM (List.Mem.head _) rfl ?_)
  | with_reducible refine o_eqI ?_
  | with_reducible refine o_neI ?_
  | with_reducible refine o_eqS ?_
  | with_reducible refine o_neS ?_
  | with_reducible refine o_neg ?_
  | ((with_reducible show Op2 _ (rIxT _) _ _ _ _); refine o_ixT rfl ?_)
  | ((with_reducible show Op2 _ (rIxL _) (Ent.dat _) _ _ _); refine o_ixL rfl ?_)
  | ((with_reducible show Op2 _ (rI CPow _) _ _ _ _); refine o_pow ⟨by decide, by decide, by decide⟩ rfl ?_)
  | with_reducible refine c_abs ?_
  | with_reducible refine c_int ?_
  | with_reducible refine c_min2 ?_
  | with_reducible refine c_max2 ?_
  | with_reducible refine c_gcd ?_
  | with_reducible refine sl_L ?_
  | with_reducible refine c_len (.lst _) ?_
  | with_reducible refine c_len (.tup _) ?_)
local macro_rules | `(tactic| walk_at "yx") => `(tactic| first
  | with_reducible refine ⟨_, rfl, ?_⟩
  | with_reducible refine ⟨_, _, rfl, ?_⟩
  | with_reducible refine ⟨fun _ => ?_, fun _ => ?_⟩
  | ((with_reducible show ∃ _ _ _ _ _ _, _ = _ ∧ _ = _ ∧ _ = _ ∧ _ = _ ∧ _); refine ⟨[], _, _, _, _, _, rfl, rfl, rfl, rfl, ?_⟩)
  | ((with_reducible show ∃ _ _ _ _ _, _ = _ ∧ _ = _ ∧ _ ∧ _ ∧ _ ∧ _ = _ ∧ _ = _ ∧ _); refine ⟨_, _, _, _, _, rfl, rfl, List.Mem.head _, by decide, by decide, rfl, rfl, ?_⟩)
  | ((with_reducible show ∃ _ _ _, _ = _ ∧ _ = _ ∧ _); refine ⟨[], _, _, rfl, rfl, ?_⟩)
  | ((with_reducible show ∃ _, Ds _ _ ∧ _ ∧ _); refine ⟨_, (by repeat (first | exact Ds.nil | apply Ds.cons)), (by simp), ?_⟩))
local macro_rules | `(tactic| walk_at "yy") => `(tactic| first | walk_at "ye" | walk_at "ya" | walk_at "ys" | walk_at "yo" | walk_at "yx" | walk_at "yc")

/-! ### places, words, polynomials -/
def atP (ps : List (List F97)) (x : F97) : List F97 := ps.map fun p => Yw.ev p x
def wordD (ps : List (List F97)) (x : F97) : PyData := .tuple (fDs (atP ps x))
def plF (n : Nat) : List F97 := (List.range n).map fun k : Nat => toF (k : Int)
def wordsP (ps : List (List F97)) (n : Nat) : List PyData := (plF n).map (wordD ps)
theorem atP_len (ps : List (List F97)) (x : F97) : (atP ps x).length = ps.length := List.length_map _
theorem plF_len (n : Nat) : (plF n).length = n := by unfold plF; rw [List.length_map, List.length_range]
theorem wordsP_len (ps : List (List F97)) (n : Nat) : (wordsP ps n).length = n := by unfold wordsP; rw [List.length_map, plF_len]
theorem fI_pl {k : Nat} (h : k < 97) : fI (toF (k : Int)) = (k : Int) := fI_toF (by omega) (by omega)
theorem plF_at {n k : Nat} (h : k < n) : (plF n)[k]? = some (toF (k : Int)) := by
  unfold plF
  rw [List.getElem?_map, List.getElem?_range h]
  rfl
theorem wordsP_at {ps : List (List F97)} {n k : Nat} (h : k < n) : (wordsP ps n)[k]? = some (wordD ps (toF (k : Int))) := by
  unfold wordsP
  rw [List.getElem?_map, plF_at h]
  rfl
theorem rg_pl {n : Nat} (h : n ≤ 97) : rgD 0 n = fDs (plF n) := by
  unfold rgD fDs plF
  rw [List.map_map]
  refine List.map_congr_left fun k hk => ?_
  have hk := List.mem_range.mp hk
  show PyData.int (0 + (k : Int)) = PyData.int (fI (toF (k : Int)))
  rw [fI_pl (by omega), Int.zero_add]
theorem plF_mem {n : Nat} (h : n ≤ 97) {x : F97} : x ∈ plF n ↔ fI x < (n : Int) := by
  unfold plF
  refine ⟨fun m => ?_, fun m => ?_⟩
  · obtain ⟨k, hk, rfl⟩ := List.mem_map.mp m
    have hk := List.mem_range.mp hk
    rw [fI_pl (by omega)]
    omega
  · have := fI_lt x
    refine List.mem_map.mpr ⟨(fI x).toNat, List.mem_range.mpr (by omega), ?_⟩
    rw [show (((fI x).toNat : Nat) : Int) = fI x by omega, toF_fI]
theorem plF_nodup {n : Nat} (h : n ≤ 97) : (plF n).Nodup := by
  unfold plF
  refine List.pairwise_map.mpr (List.Pairwise.imp_of_mem (fun {a b} ha hb c z => c ?_) (List.nodup_range (n := n)))
  have ha := List.mem_range.mp ha
  have hb := List.mem_range.mp hb
  have e := congrArg fI z
  rw [fI_pl (by omega), fI_pl (by omega)] at e
  omega
theorem fI_map_nodup {xs : List F97} (h : xs.Nodup) : (xs.map fI).Nodup := List.Pairwise.map _ (fun a b h z => h (fI_inj z)) h
theorem fDs_inj {a b : List F97} (h : a.map fI = b.map fI) : a = b := by
  have e := congrArg (List.map toF) h
  rw [List.map_map, List.map_map] at e
  have f : ∀ l : List F97, l.map (toF ∘ fI) = l := fun l => (List.map_congr_left (g := id) fun x _ => toF_fI x).trans (List.map_id _)
  rwa [f, f] at e
theorem fDs_row (p : List F97) : PyData.tuple (fDs p) = rowD (p.map fI) := by
  unfold fDs rowD
  rw [List.map_map]
  rfl
theorem wt_f (p : List F97) {n : Nat} (h : p.length ≤ n) : Wt (n * 14 + 3) 1 (.tuple (fDs p)) :=
  Wt.tup (w := 12) (dp := 0) (fun d hd => by
    obtain ⟨x, _, rfl⟩ := List.mem_map.mp hd
    exact Wt.intK (k := 11) (by decide) (by decide) (by have := fI_lt x; show _ < _; omega)) (by rw [fDs_len]; exact h)
theorem wt_word {ps : List (List F97)} (h : ps.length ≤ 100) (x : F97) : Wt 1403 1 (wordD ps x) := wt_f (n := 100) _ (by rw [atP_len]; exact h)
theorem wt_words {ps : List (List F97)} {n : Nat} (h : ps.length ≤ 100) (hn : n ≤ 20) : Wt 28103 2 (.tuple (wordsP ps n)) :=
  Wt.tup (w := 1403) (dp := 1) (n := 20) (fun d hd => by
    obtain ⟨x, _, rfl⟩ := List.mem_map.mp hd
    exact wt_word h x) (by rw [wordsP_len]; exact hn)
theorem sort_back {ys : List Int} {xs : List F97} (h : ys.Perm (xs.map fI)) : ∃ zs : List F97, ys = zs.map fI ∧ zs.Perm xs := by
  have f : ∀ l : List F97, (l.map fI).map toF = l := fun l => by rw [List.map_map]; exact (List.map_congr_left (g := id) fun x _ => toF_fI x).trans (List.map_id _)
  refine ⟨ys.map toF, ?_, ?_⟩
  · rw [List.map_map]
    refine ((List.map_congr_left (g := id) fun y hy => ?_).trans (List.map_id _)).symm
    obtain ⟨x, _, rfl⟩ := List.mem_map.mp (h.mem_iff.mp hy)
    show fI (toF (fI x)) = _
    rw [toF_fI]
    rfl
  · have := h.map toF
    rwa [f] at this
theorem mixed_back {fs : List PyData} {xs : List F97} (h : fs.Perm (fDs xs)) : ∃ zs : List F97, fs = fDs zs ∧ zs.Perm xs := by
  refine ⟨fs.map unD, ?_, ?_⟩
  · unfold fDs
    rw [List.map_map]
    refine ((List.map_congr_left (g := id) fun d hd => ?_).trans (List.map_id _)).symm
    obtain ⟨x, _, rfl⟩ := List.mem_map.mp (show d ∈ xs.map fD from h.mem_iff.mp hd)
    show fD (unD (fD x)) = _
    rw [unD_fD]
    rfl
  · have e : (fs.map unD).Perm ((fDs xs).map unD) := h.map _
    have e2 : (fDs xs).map unD = xs := by
      unfold fDs
      rw [List.map_map]
      exact (List.map_congr_left fun x _ => unD_fD x).trans (List.map_id _)
    rwa [e2] at e
/-! ### polynomials through points -/
def thrP (zs : List F97) (f : F97 → F97) : List F97 := lag zs zs (zs.map f)
theorem thrP_len {zs : List F97} (hn : zs.Nodup) (f : F97 → F97) : (thrP zs f).length = zs.length := lag_len hn zs _ fun _ h => h
theorem thrP_ev {zs : List F97} (hn : zs.Nodup) {f : F97 → F97} {x : F97} (hx : x ∈ zs) : Yw.ev (thrP zs f) x = f x := by
  obtain ⟨i, hi⟩ := List.mem_iff_getElem?.mp hx
  refine (lag_at hn zs (zs.map f) hn fun _ h => h).2 (x, f x) (List.mem_of_getElem? (i := i) (List.getElem?_zip_eq_some.mpr ⟨hi, ?_⟩))
  rw [List.getElem?_map, hi]
  rfl
section
variable {P : Program} {w : World} {K : PySem.W.Frag} {mg : Str → Option Value} {base : Heap}

end
end K53

set_option Elab.async false
set_option linter.all false
set_option maxRecDepth 100000
set_option maxHeartbeats 1000000
set_option exponentiation.threshold 20000
namespace K53
open PySem PySem.Spec PyProof.Rows L2 Yw
local macro_rules | `(tactic| walk_at "ye") => `(tactic| first
  | ((with_reducible show Ev _ (tVar _) _ _ _); first | refine ev_dat rfl ?_ | refine ev_ref rfl ?_ | refine ev_var rfl (fun z => nomatch z) ?_)
  | ((with_reducible show Ev _ (tC _) _ _ _); first | with_reducible refine ev_int ?_ | with_reducible refine ev_bl ?_ | with_reducible refine ev_non ?_ | with_reducible refine ev_str ?_ | with_reducible refine ev_ty ?_)
  | with_reducible refine ev_op ?_
  | with_reducible refine ev_un ?_
  | with_reducible refine ev_go ?_
  | with_reducible refine ev_cb ?_
  | with_reducible refine ev_tupD ?_
  | with_reducible refine ev_lstD ?_
  | with_reducible refine ev_chain ?_
  | with_reducible refine ev_if ?_
  | with_reducible refine ev_andV ?_
  | with_reducible refine ev_orV ?_
  | with_reducible refine ev_notV ?_
  | with_reducible refine ev_sl ?_
  | with_reducible refine ev_bm ?_)
local macro_rules | `(tactic| walk_at "ya") => `(tactic| first
  | with_reducible refine ea_cons ?_
  | with_reducible refine ea_nil ?_
  | with_reducible refine eo_none ?_
  | with_reducible refine eo_some ?_
  | with_reducible refine et_test ?_
  | with_reducible refine et_B ?_
  | with_reducible refine et_and ?_
  | with_reducible refine et_or ?_
  | with_reducible refine et_not ?_
  | with_reducible refine et_yes ?_
  | with_reducible refine tg_name ?_
  | with_reducible refine tgs_nil ?_
  | with_reducible refine tgs_cons ?_
  | ((with_reducible show Tg _ (gTup _ _ _) _ _ _ _); refine tg_tup rfl ?_)
  | with_reducible refine tg_sub ?_)
local macro_rules | `(tactic| walk_at "ys") => `(tactic| first
  | with_reducible refine sj_seq ?_
  | with_reducible refine sj_next ?_
  | with_reducible refine sj_newD ?_
  | with_reducible refine sj_set ?_
  | with_reducible refine sj_par ?_
  | with_reducible refine sj_ret ?_
  | with_reducible refine sj_drop ?_
  | with_reducible refine sj_if ?_
  | with_reducible refine sj_asg ?_
  | with_reducible refine sj_augS ?_
  | with_reducible refine iw_seq ?_
  | with_reducible refine iw_zip ?_
  | with_reducible refine iw_list ?_
  | with_reducible refine iw_tup ?_
  | with_reducible refine iw_r1 ?_
  | with_reducible refine iw_r2 ?_
  | with_reducible refine iw_enumT ?_)
local macro_rules | `(tactic| walk_at "yo") => `(tactic| first
  | with_reducible refine o_int ?_
  | with_reducible refine o_bool ?_
  | with_reducible refine o_mul (by first | exact mulR ⟨by decide, by decide⟩ | exact mulL ⟨by decide, by decide⟩) ?_
  | with_reducible refine o_mul ?_ ?_
  | with_reducible refine o_mod (by decide) ?_
  | with_reducible refine o_mod ?_ ?_
  | with_reducible refine o_div (by decide) (by decide +kernel) ?_
  | with_reducible refine o_cat ?_ ?_
  | with_reducible refine o_catT ?_ ?_
  | ((with_reducible show Op2 _ (rIxL _) (Ent.ref _) _ _ _); refine o_ixM (List.Mem.head _) rfl ?_)
  | with_reducible refine o_eqI ?_
  | with_reducible refine o_neI ?_
  | with_reducible refine o_eqS ?_
  | with_reducible refine o_neS ?_
  | with_reducible refine o_neg ?_
  | ((with_reducible show Op2 _ (rIxT _) _ _ _ _); refine o_ixT rfl ?_)
  | ((with_reducible show Op2 _ (rIxL _) (Ent.dat _) _ _ _); refine o_ixL rfl ?_)
  | ((with_reducible show Op2 _ (rI CPow _) _ _ _ _); refine o_pow ⟨by decide, by decide, by decide⟩ rfl ?_)
  | with_reducible refine c_abs ?_
  | with_reducible refine c_int ?_
  | with_reducible refine c_min2 ?_
  | with_reducible refine c_max2 ?_
  | with_reducible refine c_gcd ?_
  | with_reducible refine sl_L ?_
  | with_reducible refine c_len (.lst _) ?_
  | with_reducible refine c_len (.tup _) ?_)
local macro_rules | `(tactic| walk_at "yx") => `(tactic| first
  | with_reducible refine ⟨_, rfl, ?_⟩
  | with_reducible refine ⟨_, _, rfl, ?_⟩
  | with_reducible refine ⟨fun _ => ?_, fun _ => ?_⟩
  | ((with_reducible show ∃ _ _ _ _ _ _, _ = _ ∧ _ = _ ∧ _ = _ ∧ _ = _ ∧ _); refine ⟨[], _, _, _, _, _, rfl, rfl, rfl, rfl, ?_⟩)
  | ((with_reducible show ∃ _ _ _ _ _, _ = _ ∧ _ = _ ∧ _ ∧ _ ∧ _ ∧ _ = _ ∧ _ = _ ∧ _); refine ⟨_, _, _, _, _, rfl, rfl, List.Mem.head _, by decide, by decide, rfl, rfl, ?_⟩)
  | ((with_reducible show ∃ _ _ _, _ = _ ∧ _ = _ ∧ _); refine ⟨[], _, _, rfl, rfl, ?_⟩)
  | ((with_reducible show ∃ _, Ds _ _ ∧ _ ∧ _); refine ⟨_, (by repeat (first | exact Ds.nil | apply Ds.cons)), (by simp), ?_⟩))
local macro_rules | `(tactic| walk_at "yy") => `(tactic| first | walk_at "ye" | walk_at "ya" | walk_at "ys" | walk_at "yo" | walk_at "yx" | walk_at "yc")

local macro_rules | `(tactic| walk_at "yc") => `(tactic| first | with_reducible refine c_powR ?_ | with_reducible refine isi_ii ?_ | with_reducible refine isi_ib ?_)
section
variable {P : Program} {w : World} {K : PySem.W.Frag} {mg : Str → Option Value} {base : Heap}
theorem ok_field_less (B : Bt mg) (T : Stands K mg "field_less" s_field_less ["one", "other"]) : Has P w K mg base 1 "field_less" ["one", "other"] (SpQ K rFless) := by
  refine hasQ T sc_field_less (fun ds po ⟨a, b, e, _⟩ => by rw [e]; rfl) 0 rfl fun f cdv A outer s H E g hr => ⟨_, (pss_one (ps_ret (pe_op op_mod (pe_op op_sub (pv 0) (pv 1)) (pe_globI (by rfl) B.g_FIELD)))), ?_⟩
  try dsimp only [cxOf]
  rintro ds po ⟨a, b, rfl, rfl⟩
  repeat' walk_at "yy"
  rfl
theorem ok_field_product (B : Bt mg) (T : Stands K mg "field_product" s_field_product ["one", "other"]) : Has P w K mg base 1 "field_product" ["one", "other"] (SpQ K rFprod) := by
  refine hasQ T sc_field_product (fun ds po ⟨a, b, e, _⟩ => by rw [e]; rfl) 0 rfl fun f cdv A outer s H E g hr => ⟨_, (pss_one (ps_ret (pe_op op_mod (pe_op op_mulA (pv 0) (pv 1)) (pe_globI (by rfl) B.g_FIELD)))), ?_⟩
  try dsimp only [cxOf]
  rintro ds po ⟨a, b, rfl, h1, h2, rfl⟩
  have hm : IntMulOk a b := h1.ok h2 (by decide) (by decide) (by decide)
  repeat' (first | refine o_mul hm ?_ | walk_at "yy")
  rfl
theorem ok_field_inverse (B : Bt mg) (T : Stands K mg "field_inverse" s_field_inverse ["one"]) : Has P w K mg base 1 "field_inverse" ["one"] (SpQ K rFinv) := by
  refine hasQ T sc_field_inverse (fun ds po ⟨a, e, _⟩ => by rw [e]; rfl) 0 rfl fun f cdv A outer s H E g hr => ⟨_, (pss_one (ps_ret (pe_callB cr_pow (by rfl) B.b_pow (by decide +kernel) (pa_cons (pe_callTy call_int1 (by rfl) B.b_int (by decide +kernel) (pa_cons (pv 0) pa_nil)) (pa_cons pe_int (pa_cons pe_int pa_nil)))))), ?_⟩
  try dsimp only [cxOf]
  rintro ds po ⟨a, rfl, rfl⟩
  repeat' walk_at "yy"
  rfl
end
end K53

set_option Elab.async false
set_option linter.all false
set_option maxRecDepth 100000
set_option maxHeartbeats 1000000
set_option exponentiation.threshold 20000
namespace K53
open PySem PySem.Spec PyProof.Rows L2 Yw
local macro_rules | `(tactic| walk_at "ye") => `(tactic| first
  | ((with_reducible show Ev _ (tVar _) _ _ _); first | refine ev_dat rfl ?_ | refine ev_ref rfl ?_ | refine ev_var rfl (fun z => nomatch z) ?_)
  | ((with_reducible show Ev _ (tC _) _ _ _); first | with_reducible refine ev_int ?_ | with_reducible refine ev_bl ?_ | with_reducible refine ev_non ?_ | with_reducible refine ev_str ?_ | with_reducible refine ev_ty ?_)
  | with_reducible refine ev_op ?_
  | with_reducible refine ev_un ?_
  | with_reducible refine ev_go ?_
  | with_reducible refine ev_cb ?_
  | with_reducible refine ev_tupD ?_
  | with_reducible refine ev_lstD ?_
  | with_reducible refine ev_chain ?_
  | with_reducible refine ev_if ?_
  | with_reducible refine ev_andV ?_
  | with_reducible refine ev_orV ?_
  | with_reducible refine ev_notV ?_
  | with_reducible refine ev_sl ?_
  | with_reducible refine ev_bm ?_)
local macro_rules | `(tactic| walk_at "ya") => `(tactic| first
  | with_reducible refine ea_cons ?_
  | with_reducible refine ea_nil ?_
  | with_reducible refine eo_none ?_
  | with_reducible refine eo_some ?_
  | with_reducible refine et_test ?_
  | with_reducible refine et_B ?_
  | with_reducible refine et_and ?_
  | with_reducible refine et_or ?_
  | with_reducible refine et_not ?_
  | with_reducible refine et_yes ?_
  | with_reducible refine tg_name ?_
  | with_reducible refine tgs_nil ?_
  | with_reducible refine tgs_cons ?_
  | ((with_reducible show Tg _ (gTup _ _ _) _ _ _ _); refine tg_tup rfl ?_)
  | with_reducible refine tg_sub ?_)
local macro_rules | `(tactic| walk_at "ys") => `(tactic| first
  | with_reducible refine sj_seq ?_
  | with_reducible refine sj_next ?_
  | with_reducible refine sj_newD ?_
  | with_reducible refine sj_set ?_
  | with_reducible refine sj_par ?_
  | with_reducible refine sj_ret ?_
  | with_reducible refine sj_drop ?_
  | with_reducible refine sj_if ?_
  | with_reducible refine sj_asg ?_
  | with_reducible refine sj_augS ?_
  | with_reducible refine iw_seq ?_
  | with_reducible refine iw_zip ?_
  | with_reducible refine iw_list ?_
  | with_reducible refine iw_tup ?_
  | with_reducible refine iw_r1 ?_
  | with_reducible refine iw_r2 ?_
  | with_reducible refine iw_enumT ?_)
local macro_rules | `(tactic| walk_at "yo") => `(tactic| first
  | with_reducible refine o_int ?_
  | with_reducible refine o_bool ?_
  | with_reducible refine o_mul (by first | exact mulR ⟨by decide, by decide⟩ | exact mulL ⟨by decide, by decide⟩) ?_
  | with_reducible refine o_mul ?_ ?_
  | with_reducible refine o_mod (by decide) ?_
  | with_reducible refine o_mod ?_ ?_
  | with_reducible refine o_div (by decide) (by decide +kernel) ?_
  | with_reducible refine o_cat ?_ ?_
  | with_reducible refine o_catT ?_ ?_
  | ((with_reducible show Op2 _ (rIxL _) (Ent.ref _) _ _ _); refine o_ixM (List.Mem.head _) rfl ?_)
  | with_reducible refine o_eqI ?_
  | with_reducible refine o_neI ?_
  | with_reducible refine o_eqS ?_
  | with_reducible refine o_neS ?_
  | with_reducible refine o_neg ?_
  | ((with_reducible show Op2 _ (rIxT _) _ _ _ _); refine o_ixT rfl ?_)
  | ((with_reducible show Op2 _ (rIxL _) (Ent.dat _) _ _ _); refine o_ixL rfl ?_)
  | ((with_reducible show Op2 _ (rI CPow _) _ _ _ _); refine o_pow ⟨by decide, by decide, by decide⟩ rfl ?_)
  | with_reducible refine c_abs ?_
  | with_reducible refine c_int ?_
  | with_reducible refine c_min2 ?_
  | with_reducible refine c_max2 ?_
  | with_reducible refine c_gcd ?_
  | with_reducible refine sl_L ?_
  | with_reducible refine c_len (.lst _) ?_
  | with_reducible refine c_len (.tup _) ?_)
local macro_rules | `(tactic| walk_at "yx") => `(tactic| first
  | with_reducible refine ⟨_, rfl, ?_⟩
  | with_reducible refine ⟨_, _, rfl, ?_⟩
  | with_reducible refine ⟨fun _ => ?_, fun _ => ?_⟩
  | ((with_reducible show ∃ _ _ _ _ _ _, _ = _ ∧ _ = _ ∧ _ = _ ∧ _ = _ ∧ _); refine ⟨[], _, _, _, _, _, rfl, rfl, rfl, rfl, ?_⟩)
  | ((with_reducible show ∃ _ _ _ _ _, _ = _ ∧ _ = _ ∧ _ ∧ _ ∧ _ ∧ _ = _ ∧ _ = _ ∧ _); refine ⟨_, _, _, _, _, rfl, rfl, List.Mem.head _, by decide, by decide, rfl, rfl, ?_⟩)
  | ((with_reducible show ∃ _ _ _, _ = _ ∧ _ = _ ∧ _); refine ⟨[], _, _, rfl, rfl, ?_⟩)
  | ((with_reducible show ∃ _, Ds _ _ ∧ _ ∧ _); refine ⟨_, (by repeat (first | exact Ds.nil | apply Ds.cons)), (by simp), ?_⟩))
local macro_rules | `(tactic| walk_at "yy") => `(tactic| first | walk_at "ye" | walk_at "ya" | walk_at "ys" | walk_at "yo" | walk_at "yx" | walk_at "yc")

local macro_rules | `(tactic| walk_at "yc") => `(tactic| first | with_reducible refine c_fsumF ?_ | with_reducible refine c_flessF ?_ | with_reducible refine c_fprodF ?_ | with_reducible refine c_finvF ?_ | with_reducible refine iw_revA ?_ | with_reducible refine iw_zipM ?_)
def rWeighedT : RR := fun ds po => ∃ (ws vs : List F97), ds = [.tuple (fDs ws), .tuple (fDs vs)] ∧ ws.length ≤ 900 ∧ po = fun r => r = fD (Yw.wsum ws vs)
theorem c_weighedT {K : PySem.W.Frag} {M : MM} {Q : Ent → MM → Prop} {ws vs : List F97} (hl : ws.length ≤ 900) (q : Q (.dat (fD (Yw.wsum ws vs))) M) : Cb K (fun vs H Q => SpQ K rWeighedT vs H Q E0) [.dat (.tuple (fDs ws)), .dat (.tuple (fDs vs))] M Q := c_Q (.cons (.cons .nil)) _ ⟨ws, vs, rfl, hl, rfl⟩ fun r e => by rw [e]; exact q
section
variable {P : Program} {w : World} {K : PySem.W.Frag} {mg : Str → Option Value} {base : Heap}
theorem ok_weights_at (B : Bt mg) (D_field_less : Has P w K mg base 1 "field_less" ["one", "other"] (SpQ K rFless)) (D_field_product : Has P w K mg base 1 "field_product" ["one", "other"] (SpQ K rFprod)) (D_field_inverse : Has P w K mg base 1 "field_inverse" ["one"] (SpQ K rFinv)) (T : Stands K mg "weights_at" s_weights_at ["ats", "at"]) : Has P w K mg base 2 "weights_at" ["ats", "at"] (SpQ K rWeightsAt) := by
  refine hasQ T sc_weights_at (fun ds po ⟨ats, x, e, _⟩ => by rw [e]; rfl) 5 rfl fun f cdv A outer s H E g hr => ⟨_, (pss_cons (ps_set (i := 2) sc_weights_at.nd rfl (by first | exact .inl rfl | exact .inr rfl) (pe_lst pa_nil))
      (pss_cons (ps_for PassesOwn.never rfl (pi_list (pv 0)) (pg_name (i := 3) sc_weights_at.nd rfl (by first | exact .inl rfl | exact .inr rfl)) (pss_cons (ps_asg (pe_tup (pa_cons pe_int (pa_cons pe_int pa_nil))) (pg_tup rfl (pgs_cons (pg_name (i := 4) sc_weights_at.nd rfl (by first | exact .inl rfl | exact .inr rfl)) (pgs_cons (pg_name (i := 5) sc_weights_at.nd rfl (by first | exact .inl rfl | exact .inr rfl)) pgs_nil))))
      (pss_cons (ps_for PassesOwn.never rfl (pi_list (pv 0)) (pg_name (i := 6) sc_weights_at.nd rfl (by first | exact .inl rfl | exact .inr rfl)) (pss_one (ps_if (pt_cmpR op_ne (pv 6) (pv 3) (nomark _)) (pss_cons (ps_set (i := 4) sc_weights_at.nd rfl (by first | exact .inl rfl | exact .inr rfl) (peD D_field_product g hr (by first | decide | exact Nat.le_refl _ | omega) (by rfl) (pa_cons (pv 4) (pa_cons (peD D_field_less g hr (by first | decide | exact Nat.le_refl _ | omega) (by rfl) (pa_cons (pv 1) (pa_cons (pv 6) pa_nil))) pa_nil))))
      (pss_one (ps_set (i := 5) sc_weights_at.nd rfl (by first | exact .inl rfl | exact .inr rfl) (peD D_field_product g hr (by first | decide | exact Nat.le_refl _ | omega) (by rfl) (pa_cons (pv 5) (pa_cons (peD D_field_less g hr (by first | decide | exact Nat.le_refl _ | omega) (by rfl) (pa_cons (pv 3) (pa_cons (pv 6) pa_nil))) pa_nil)))))) pss_nil)))
      (pss_one (ps_expr (pe_bm PySem.F.plainAttrs_list PySem.F.slot_list_append PySem.F.type_list_append mt_append (pv 2) (pa_cons (peD D_field_product g hr (by first | decide | exact Nat.le_refl _ | omega) (by rfl) (pa_cons (pv 4) (pa_cons (peD D_field_inverse g hr (by first | decide | exact Nat.le_refl _ | omega) (by rfl) (pa_cons (pv 5) pa_nil)) pa_nil))) pa_nil)))))))
      (pss_one (ps_ret (pe_callTy call_tuple_of (by rfl) B.b_tuple (by decide +kernel) (pa_cons (pv 2) pa_nil)))))), ?_⟩
  try dsimp only [cxOf]
  rintro ds po ⟨ats, x, rfl, hl, rfl⟩
  repeat' walk_at "yy"
  intro p hp
  repeat' walk_at "yy"
  refine sj_for ?_
  repeat' walk_at "yy"
  refine ⟨fun k es M => ∃ e3 e4 e5 e6, es = [.dat (.list (fDs ats)), .dat (fD x), .ref p, e3, e4, e5, e6] ∧ M = [(p, .lst (fDs ((wts ats x).take k)))], ⟨_, _, _, _, rfl, rfl⟩, ?_, ?_⟩
  · rintro k d es M hd ⟨e3, e4, e5, e6, rfl, rfl⟩
    obtain ⟨o, ho, rfl⟩ := fDs_at hd
    have hk := (List.getElem?_eq_some_iff.mp ho).1
    have hw : (wts ats x)[k]? = some (abv ats x o * finv (abv ats o o)) := by
      unfold wts
      rw [List.getElem?_map, ho]
      rfl
    repeat' walk_at "yy"
    refine sj_for ?_
    repeat' walk_at "yy"
    refine ⟨fun j es M => ∃ e6, es = [.dat (.list (fDs ats)), .dat (fD x), .ref p, .dat (fD o), .dat (fD (abv (ats.take j) x o)), .dat (fD (abv (ats.take j) o o)), e6] ∧ M = [(p, .lst (fDs ((wts ats x).take k)))], ⟨_, rfl, rfl⟩, ?_, ?_⟩
    · rintro j d es M hd ⟨e6, rfl, rfl⟩
      obtain ⟨a, ha, rfl⟩ := fDs_at hd
      have p1 : abv (ats.take (j + 1)) x o = if a ≠ o then abv (ats.take j) x o * (x - a) else abv (ats.take j) x o := by
        unfold abv
        rw [← take_put ha, List.foldl_append]
        rfl
      have p2 : abv (ats.take (j + 1)) o o = if a ≠ o then abv (ats.take j) o o * (o - a) else abv (ats.take j) o o := by
        unfold abv
        rw [← take_put ha, List.foldl_append]
        rfl
      repeat' walk_at "yy"
      · have c : a ≠ o := fun z => by subst z; simp_all
        rw [if_pos c] at p1 p2
        exact ⟨_, by rw [p1, p2]; rfl, rfl⟩
      · have c : ¬ a ≠ o := fun z => by
          have h : (!decide (fI a = fI o)) = false := ‹_›
          simp only [Bool.not_eq_false', decide_eq_true_eq] at h
          exact z (fI_inj h)
        rw [if_neg c] at p1 p2
        exact ⟨_, by rw [p1, p2]; rfl, rfl⟩
    · rintro es M ⟨e6, rfl, rfl⟩
      rw [fDs_len, List.take_length]
      repeat' walk_at "yy"
      refine ⟨ty_ref (List.Mem.head _), ?_⟩
      repeat' walk_at "yy"
      refine m_append (Ma := []) (Mb := []) rfl (by rw [fDs_len, List.length_take]; omega) ?_
      exact ⟨_, _, _, _, rfl, by rw [fDs_put hw]; rfl⟩
  · rintro es M ⟨e3, e4, e5, e6, rfl, rfl⟩
    rw [fDs_len]
    refine sj_fast [] [] rfl hp (.keep (.keep (.hit (.keep (.keep (.keep (.keep .nil))))))) ?_
    repeat' walk_at "yy"
    refine c_tuple (.lst _) ?_
    repeat' walk_at "yy"
    show _ = _
    rw [show ats.length = (wts ats x).length by unfold wts; rw [List.length_map], List.take_length]
theorem ok_weighed (B : Bt mg) (T : Stands K mg "weighed" s_weighed ["weights", "values"]) : Has P w K mg base 1 "weighed" ["weights", "values"] (SpQ K rWeighedT) := by
  refine hasQ T sc_weighed (fun ds po ⟨ws, vs, e, _⟩ => by rw [e]; rfl) 2 rfl fun f cdv A outer s H E g hr => ⟨_, (pss_one (ps_ret (pe_op op_mod (pe_callB (cr_sumA rfl) (by rfl) B.b_sum (by decide +kernel) (pa_cons (pe_lc (own := [("weight", 2), ("value", 3)]) (g := gTup _ 2 (gCons (gName 2) (gCons (gName 3) (gNil)))) (tt := tYes) rfl sc_weighed.nd (RZ.pi_zipA (by rfl) B.b_zip (pa_cons (pv 0) (pa_cons (pv 1) pa_nil))) (blkOk_by (N := N_weighed) (sc := defScope s_weighed) (by decide +kernel)) (fun _ _ _ _ _ => (pg_tup rfl (pgs_cons (pg_name (i := 2) sc_weighed.nd rfl (by first | exact .inl rfl | exact .inr rfl)) (pgs_cons (pg_name (i := 3) sc_weighed.nd rfl (by first | exact .inl rfl | exact .inr rfl)) pgs_nil)))) (fun _ _ _ _ _ => pts_nil) (fun _ _ _ _ _ => (pe_op op_mulA (pv 2) (pv 3)))) pa_nil)) (pe_globI (by rfl) B.g_FIELD)))), ?_⟩
  try dsimp only [cxOf]
  rintro ds po ⟨ws, vs, rfl, hl, rfl⟩
  repeat' walk_at "yy"
  refine ev_lc (own_pair (by decide) (by decide)) ?_
  repeat' walk_at "yy"
  refine ⟨_, _, .inr rfl, ?_⟩
  refine ⟨fun k acc M => acc = ((List.zipWith (fun a b => fI a * fI b) ws vs).take k).map PyData.int, rfl, fun k d acc M hd e => ?_, fun acc M e => ?_⟩
  · obtain ⟨u, v, h1, h2, rfl⟩ := zip_fDs hd
    have hk := (List.getElem?_eq_some_iff.mp h1).1
    have hm : IntMulOk (fI u) (fI v) := (fI_bd u).ok (fI_bd v) (by decide) (by decide) (by decide)
    have hz : (List.zipWith (fun a b => fI a * fI b) ws vs)[k]? = some (fI u * fI v) := by rw [List.getElem?_zipWith, h1, h2]
    refine ⟨by rw [e, List.length_map, List.length_take]; omega, ?_⟩
    repeat' (first | exact absurd ‹true = false› (by decide) | refine o_mul hm ?_ | walk_at "yy")
    show _ = _
    rw [e, ← take_put hz, List.map_append]
    rfl
  · rw [zipD_len, fDs_len, fDs_len, ← List.length_zipWith (f := fun a b => fI a * fI b) (l₁ := ws) (l₂ := vs), List.take_length] at e
    subst e
    repeat' walk_at "yy"
    refine c_sumA (.lst _) ?_
    repeat' walk_at "yy"
    show _ = _
    have key : ∀ (ws vs : List F97) (s : F97) (a : Int), a % 97 = fI s → (a + (List.zipWith (fun a b => fI a * fI b) ws vs).sum) % 97 = fI ((List.zipWith (· * ·) ws vs).foldl (· + ·) s) := by
      intro ws
      induction ws with
      | nil => intro vs s a h; simpa using h
      | cons w ws ih =>
        intro vs s a h
        cases vs with
        | nil => simpa using h
        | cons v vs =>
          rw [List.zipWith_cons_cons, List.zipWith_cons_cons, List.sum_cons, List.foldl_cons, ← Int.add_assoc]
          refine ih vs (s + w * v) _ ?_
          rw [Int.add_emod, h, fI_mul, fI_add]
    have z := key ws vs 0 0 rfl
    rw [Int.zero_add] at z
    unfold Yw.wsum
    exact congrArg PyData.int z
end
end K53

set_option Elab.async false
set_option linter.all false
set_option maxRecDepth 100000
set_option maxHeartbeats 1000000
set_option exponentiation.threshold 20000
namespace K53
open PySem PySem.Spec PyProof.Rows L2 Yw
local macro_rules | `(tactic| walk_at "ye") => `(tactic| first
  | ((with_reducible show Ev _ (tVar _) _ _ _); first | refine ev_dat rfl ?_ | refine ev_ref rfl ?_ | refine ev_var rfl (fun z => nomatch z) ?_)
  | ((with_reducible show Ev _ (tC _) _ _ _); first | with_reducible refine ev_int ?_ | with_reducible refine ev_bl ?_ | with_reducible refine ev_non ?_ | with_reducible refine ev_str ?_ | with_reducible refine ev_ty ?_)
  | with_reducible refine ev_op ?_
  | with_reducible refine ev_un ?_
  | with_reducible refine ev_go ?_
  | with_reducible refine ev_cb ?_
  | with_reducible refine ev_tupD ?_
  | with_reducible refine ev_lstD ?_
  | with_reducible refine ev_chain ?_
  | with_reducible refine ev_if ?_
  | with_reducible refine ev_andV ?_
  | with_reducible refine ev_orV ?_
  | with_reducible refine ev_notV ?_
  | with_reducible refine ev_sl ?_
  | with_reducible refine ev_bm ?_)
local macro_rules | `(tactic| walk_at "ya") => `(tactic| first
  | with_reducible refine ea_cons ?_
  | with_reducible refine ea_nil ?_
  | with_reducible refine eo_none ?_
  | with_reducible refine eo_some ?_
  | with_reducible refine et_test ?_
  | with_reducible refine et_B ?_
  | with_reducible refine et_and ?_
  | with_reducible refine et_or ?_
  | with_reducible refine et_not ?_
  | with_reducible refine et_yes ?_
  | with_reducible refine tg_name ?_
  | with_reducible refine tgs_nil ?_
  | with_reducible refine tgs_cons ?_
  | ((with_reducible show Tg _ (gTup _ _ _) _ _ _ _); refine tg_tup rfl ?_)
  | with_reducible refine tg_sub ?_)
local macro_rules | `(tactic| walk_at "ys") => `(tactic| first
  | with_reducible refine sj_seq ?_
  | with_reducible refine sj_next ?_
  | with_reducible refine sj_newD ?_
  | with_reducible refine sj_set ?_
  | with_reducible refine sj_par ?_
  | with_reducible refine sj_ret ?_
  | with_reducible refine sj_drop ?_
  | with_reducible refine sj_if ?_
  | with_reducible refine sj_asg ?_
  | with_reducible refine sj_augS ?_
  | with_reducible refine iw_seq ?_
  | with_reducible refine iw_zip ?_
  | with_reducible refine iw_list ?_
  | with_reducible refine iw_tup ?_
  | with_reducible refine iw_r1 ?_
  | with_reducible refine iw_r2 ?_
  | with_reducible refine iw_enumT ?_)
local macro_rules | `(tactic| walk_at "yo") => `(tactic| first
  | with_reducible refine o_int ?_
  | with_reducible refine o_bool ?_
  | with_reducible refine o_mul (by first | exact mulR ⟨by decide, by decide⟩ | exact mulL ⟨by decide, by decide⟩) ?_
  | with_reducible refine o_mul ?_ ?_
  | with_reducible refine o_mod (by decide) ?_
  | with_reducible refine o_mod ?_ ?_
  | with_reducible refine o_div (by decide) (by decide +kernel) ?_
  | with_reducible refine o_cat ?_ ?_
  | with_reducible refine o_catT ?_ ?_
  | ((with_reducible show Op2 _ (rIxL _) (Ent.ref _) _ _ _); refine o_ixM (List.Mem.head _) rfl ?_)
  | with_reducible refine o_eqI ?_
  | with_reducible refine o_neI ?_
  | with_reducible refine o_eqS ?_
  | with_reducible refine o_neS ?_
  | with_reducible refine o_neg ?_
  | ((with_reducible show Op2 _ (rIxT _) _ _ _ _); refine o_ixT rfl ?_)
  | ((with_reducible show Op2 _ (rIxL _) (Ent.dat _) _ _ _); refine o_ixL rfl ?_)
  | ((with_reducible show Op2 _ (rI CPow _) _ _ _ _); refine o_pow ⟨by decide, by decide, by decide⟩ rfl ?_)
  | with_reducible refine c_abs ?_
  | with_reducible refine c_int ?_
  | with_reducible refine c_min2 ?_
  | with_reducible refine c_max2 ?_
  | with_reducible refine c_gcd ?_
  | with_reducible refine sl_L ?_
  | with_reducible refine c_len (.lst _) ?_
  | with_reducible refine c_len (.tup _) ?_)
local macro_rules | `(tactic| walk_at "yx") => `(tactic| first
  | with_reducible refine ⟨_, rfl, ?_⟩
  | with_reducible refine ⟨_, _, rfl, ?_⟩
  | with_reducible refine ⟨fun _ => ?_, fun _ => ?_⟩
  | ((with_reducible show ∃ _ _ _ _ _ _, _ = _ ∧ _ = _ ∧ _ = _ ∧ _ = _ ∧ _); refine ⟨[], _, _, _, _, _, rfl, rfl, rfl, rfl, ?_⟩)
  | ((with_reducible show ∃ _ _ _ _ _, _ = _ ∧ _ = _ ∧ _ ∧ _ ∧ _ ∧ _ = _ ∧ _ = _ ∧ _); refine ⟨_, _, _, _, _, rfl, rfl, List.Mem.head _, by decide, by decide, rfl, rfl, ?_⟩)
  | ((with_reducible show ∃ _ _ _, _ = _ ∧ _ = _ ∧ _); refine ⟨[], _, _, rfl, rfl, ?_⟩)
  | ((with_reducible show ∃ _, Ds _ _ ∧ _ ∧ _); refine ⟨_, (by repeat (first | exact Ds.nil | apply Ds.cons)), (by simp), ?_⟩))
local macro_rules | `(tactic| walk_at "yy") => `(tactic| first | walk_at "ye" | walk_at "ya" | walk_at "ys" | walk_at "yo" | walk_at "yx" | walk_at "yc")

local macro_rules | `(tactic| walk_at "yc") => `(tactic| first | with_reducible refine c_take ?_ ?_ ?_)
section
variable {P : Program} {w : World} {K : PySem.W.Frag} {mg : Str → Option Value} {base : Heap}
theorem ok_l_mixed (B : Bt mg) (D_l_take : Has P w K mg base 1 "_law_take" ["bag", "many"] (SpD K rTake)) (T : Stands K mg "_law_mixed" s_l_mixed ["bag", "things"]) : Has P w K mg base 2 "_law_mixed" ["bag", "things"] (SpD K rMixed) := by
  refine hasD T sc_l_mixed (fun ds po ⟨things, e, _⟩ => by rw [e]; rfl) 2 rfl fun f cdv A outer s H E g hr => ⟨_, (pss_cons (ps_set (i := 2) sc_l_mixed.nd rfl (by first | exact .inl rfl | exact .inr rfl) (pe_lst pa_nil))
      (pss_cons (ps_for PassesOwn.never rfl (pi_list (pv 1)) (pg_name (i := 3) sc_l_mixed.nd rfl (by first | exact .inl rfl | exact .inr rfl)) (pss_one (ps_expr (pe_bm PySem.F.plainAttrs_list PySem.F.slot_list_insert PySem.F.type_list_insert mt_insert (pv 2) (pa_cons (peD D_l_take g hr (by first | decide | exact Nat.le_refl _ | omega) (by rfl) (pa_cons (pv 0) (pa_cons (pe_op op_add (pe_callB call_len_seq (by rfl) B.b_len (by decide +kernel) (pa_cons (pv 2) pa_nil)) pe_int) pa_nil))) (pa_cons (pv 3) pa_nil))))))
      (pss_one (ps_ret (pv 2))))), ?_⟩
  try dsimp only [cxOf]
  rintro b C ds po ⟨things, rfl, hl, rfl⟩
  repeat' walk_at "yy"
  intro p hp
  repeat' walk_at "yy"
  refine sj_for ?_
  repeat' walk_at "yy"
  refine ⟨fun k es M => ∃ C fs e3, es = [.ref b, .dat (.list things), .ref p, e3] ∧ M = [(b, .lst (Bag.ds C)), (p, .lst fs)] ∧ fs.Perm (things.take k), ⟨C, [], .no, rfl, rfl, by simp⟩, ?_, ?_⟩
  · rintro k d es M hd ⟨C, fs, e3, rfl, rfl, pe⟩
    have hk := (List.getElem?_eq_some_iff.mp hd).1
    have fl : fs.length = k := by rw [pe.length_eq, List.length_take]; omega
    repeat' walk_at "yy"
    refine ⟨ty_ref (List.Mem.tail _ (List.Mem.head _)), ?_⟩
    repeat' (first | refine c_lenM (List.Mem.tail _ (List.Mem.head _)) ?_ | walk_at "yy")
    · omega
    · exact Bd.up (j := 20) (by show _ < _; omega) (by decide)
    intro v C2 v0 v1
    repeat' walk_at "yy"
    refine m_insert (Ma := [(b, .lst (Bag.ds C2))]) (Mb := []) rfl (by omega) v0 (by omega) ?_
    refine ⟨C2, _, _, rfl, rfl, ?_⟩
    rw [← take_put hd]
    have h1 : (fs.take v.toNat ++ [d] ++ fs.drop v.toNat).Perm (fs ++ [d]) := by
      have : (fs.take v.toNat ++ [d] ++ fs.drop v.toNat).Perm (fs.take v.toNat ++ fs.drop v.toNat ++ [d]) := by
        rw [List.append_assoc, List.append_assoc]
        exact List.Perm.append_left _ List.perm_append_comm
      rwa [List.take_append_drop] at this
    exact h1.trans (pe.append_right _)
  · rintro es M ⟨C, fs, e3, rfl, rfl, pe⟩
    rw [List.take_length] at pe
    refine sj_fast [(b, .lst (Bag.ds C))] [] rfl hp (.keep (.keep (.hit (.keep .nil)))) ?_
    repeat' walk_at "yy"
    exact ⟨⟨C, [], rfl⟩, fs, rfl, pe⟩
theorem ok_l_value (B : Bt mg) (T : Stands K mg "_law_value" s_l_value ["polynomial", "at"]) : Has P w K mg base 1 "_law_value" ["polynomial", "at"] (SpQ K rValueOf) := by
  refine hasQ T sc_l_value (fun ds po ⟨p, x, e, _⟩ => by rw [e]; rfl) 2 rfl fun f cdv A outer s H E g hr => ⟨_, (pss_cons (ps_set (i := 2) sc_l_value.nd rfl (by first | exact .inl rfl | exact .inr rfl) pe_int)
      (pss_cons (ps_for PassesOwn.never rfl (pi_tup (pe_revT (pv 0))) (pg_name (i := 3) sc_l_value.nd rfl (by first | exact .inl rfl | exact .inr rfl)) (pss_one (ps_set (i := 2) sc_l_value.nd rfl (by first | exact .inl rfl | exact .inr rfl) (pe_op op_mod (pe_op op_add (pe_op op_mulA (pv 2) (pv 1)) (pv 3)) pe_int))))
      (pss_one (ps_ret (pv 2))))), ?_⟩
  try dsimp only [cxOf]
  rintro ds po ⟨p, x, rfl, hl, rfl⟩
  repeat' (first | with_reducible refine ev_revT ?_ | walk_at "yy")
  refine sj_for ?_
  repeat' (first | with_reducible refine ev_revT ?_ | walk_at "yy")
  refine ⟨fun k es M => ∃ e3, es = [.dat (.tuple (fDs p)), .dat (fD x), .dat (fD (ev (p.drop (p.length - k)) x)), e3], ⟨.no, by simp [ev]; rfl⟩, ?_, ?_⟩
  · rintro k d es M hd ⟨e3, rfl⟩
    unfold fDs at hd
    rw [← List.map_reverse] at hd
    obtain ⟨c, hc, rfl⟩ := fDs_at hd
    have hm : IntMulOk (fI (ev (p.drop (p.length - k)) x)) (fI x) := (fI_bd _).ok (fI_bd x) (by decide) (by decide) (by decide)
    repeat' (first | refine o_mul hm ?_ | walk_at "yy")
    refine ⟨.dat (fD c), ?_⟩
    rw [ev_drop hc, Int.add_emod, fI_mul, show fI c % 97 = fI c from by have := fI_lt c; omega, fI_add]
    rfl
  · rintro es M ⟨e3, rfl⟩
    repeat' walk_at "yy"
    show _ = _
    rw [List.length_reverse, fDs_len, Nat.sub_self, List.drop_zero]
end
end K53

set_option Elab.async false
set_option linter.all false
set_option maxRecDepth 100000
set_option maxHeartbeats 1000000
set_option exponentiation.threshold 20000
namespace K53
open PySem PySem.Spec PyProof.Rows L2 Yw
local macro_rules | `(tactic| walk_at "ye") => `(tactic| first
  | ((with_reducible show Ev _ (tVar _) _ _ _); first | refine ev_dat rfl ?_ | refine ev_ref rfl ?_ | refine ev_var rfl (fun z => nomatch z) ?_)
  | ((with_reducible show Ev _ (tC _) _ _ _); first | with_reducible refine ev_int ?_ | with_reducible refine ev_bl ?_ | with_reducible refine ev_non ?_ | with_reducible refine ev_str ?_ | with_reducible refine ev_ty ?_)
  | with_reducible refine ev_op ?_
  | with_reducible refine ev_un ?_
  | with_reducible refine ev_go ?_
  | with_reducible refine ev_cb ?_
  | with_reducible refine ev_tupD ?_
  | with_reducible refine ev_lstD ?_
  | with_reducible refine ev_chain ?_
  | with_reducible refine ev_if ?_
  | with_reducible refine ev_andV ?_
  | with_reducible refine ev_orV ?_
  | with_reducible refine ev_notV ?_
  | with_reducible refine ev_sl ?_
  | with_reducible refine ev_bm ?_)
local macro_rules | `(tactic| walk_at "ya") => `(tactic| first
  | with_reducible refine ea_cons ?_
  | with_reducible refine ea_nil ?_
  | with_reducible refine eo_none ?_
  | with_reducible refine eo_some ?_
  | with_reducible refine et_test ?_
  | with_reducible refine et_B ?_
  | with_reducible refine et_and ?_
  | with_reducible refine et_or ?_
  | with_reducible refine et_not ?_
  | with_reducible refine et_yes ?_
  | with_reducible refine tg_name ?_
  | with_reducible refine tgs_nil ?_
  | with_reducible refine tgs_cons ?_
  | ((with_reducible show Tg _ (gTup _ _ _) _ _ _ _); refine tg_tup rfl ?_)
  | with_reducible refine tg_sub ?_)
local macro_rules | `(tactic| walk_at "ys") => `(tactic| first
  | with_reducible refine sj_seq ?_
  | with_reducible refine sj_next ?_
  | with_reducible refine sj_newD ?_
  | with_reducible refine sj_set ?_
  | with_reducible refine sj_par ?_
  | with_reducible refine sj_ret ?_
  | with_reducible refine sj_drop ?_
  | with_reducible refine sj_if ?_
  | with_reducible refine sj_asg ?_
  | with_reducible refine sj_augS ?_
  | with_reducible refine iw_seq ?_
  | with_reducible refine iw_zip ?_
  | with_reducible refine iw_list ?_
  | with_reducible refine iw_tup ?_
  | with_reducible refine iw_r1 ?_
  | with_reducible refine iw_r2 ?_
  | with_reducible refine iw_enumT ?_)
local macro_rules | `(tactic| walk_at "yo") => `(tactic| first
  | with_reducible refine o_int ?_
  | with_reducible refine o_bool ?_
  | with_reducible refine o_mul (by first | exact mulR ⟨by decide, by decide⟩ | exact mulL ⟨by decide, by decide⟩) ?_
  | with_reducible refine o_mul ?_ ?_
  | with_reducible refine o_mod (by decide) ?_
  | with_reducible refine o_mod ?_ ?_
  | with_reducible refine o_div (by decide) (by decide +kernel) ?_
  | with_reducible refine o_cat ?_ ?_
  | with_reducible refine o_catT ?_ ?_
  | ((with_reducible show Op2 _ (rIxL _) (Ent.ref _) _ _ _); refine o_ixM (List.Mem.head _) rfl ?_)
  | with_reducible refine o_eqI ?_
  | with_reducible refine o_neI ?_
  | with_reducible refine o_eqS ?_
  | with_reducible refine o_neS ?_
  | with_reducible refine o_neg ?_
  | ((with_reducible show Op2 _ (rIxT _) _ _ _ _); refine o_ixT rfl ?_)
  | ((with_reducible show Op2 _ (rIxL _) (Ent.dat _) _ _ _); refine o_ixL rfl ?_)
  | ((with_reducible show Op2 _ (rI CPow _) _ _ _ _); refine o_pow ⟨by decide, by decide, by decide⟩ rfl ?_)
  | with_reducible refine c_abs ?_
  | with_reducible refine c_int ?_
  | with_reducible refine c_min2 ?_
  | with_reducible refine c_max2 ?_
  | with_reducible refine c_gcd ?_
  | with_reducible refine sl_L ?_
  | with_reducible refine c_len (.lst _) ?_
  | with_reducible refine c_len (.tup _) ?_)
local macro_rules | `(tactic| walk_at "yx") => `(tactic| first
  | with_reducible refine ⟨_, rfl, ?_⟩
  | with_reducible refine ⟨_, _, rfl, ?_⟩
  | with_reducible refine ⟨fun _ => ?_, fun _ => ?_⟩
  | ((with_reducible show ∃ _ _ _ _ _ _, _ = _ ∧ _ = _ ∧ _ = _ ∧ _ = _ ∧ _); refine ⟨[], _, _, _, _, _, rfl, rfl, rfl, rfl, ?_⟩)
  | ((with_reducible show ∃ _ _ _ _ _, _ = _ ∧ _ = _ ∧ _ ∧ _ ∧ _ ∧ _ = _ ∧ _ = _ ∧ _); refine ⟨_, _, _, _, _, rfl, rfl, List.Mem.head _, by decide, by decide, rfl, rfl, ?_⟩)
  | ((with_reducible show ∃ _ _ _, _ = _ ∧ _ = _ ∧ _); refine ⟨[], _, _, rfl, rfl, ?_⟩)
  | ((with_reducible show ∃ _, Ds _ _ ∧ _ ∧ _); refine ⟨_, (by repeat (first | exact Ds.nil | apply Ds.cons)), (by simp), ?_⟩))
local macro_rules | `(tactic| walk_at "yy") => `(tactic| first | walk_at "ye" | walk_at "ya" | walk_at "ys" | walk_at "yo" | walk_at "yx" | walk_at "yc")

local macro_rules | `(tactic| walk_at "yc") => `(tactic| first | with_reducible refine c_fsumF ?_ | with_reducible refine c_flessF ?_ | with_reducible refine c_fprodF ?_ | with_reducible refine iw_zipS ?_)
/-! ### words from words -/
def rWordsFrom : RR := fun ds po => ∃ (kvs : IVs) (ats : List F97) (ps : List (List F97)) (n : Nat), ds = [dicI kvs, .list (fDs ats), .int (n : Int)] ∧ ats.Nodup ∧ ats.length ≤ 12 ∧ ps.length ≤ 1000 ∧ (∀ p ∈ ps, p.length = ats.length) ∧ (ats = [] → ps = []) ∧ (∀ x ∈ ats, getI kvs (fI x) = some (wordD ps x)) ∧ n ≤ 97 ∧ po = fun r => r = .tuple (wordsP ps n)
section
variable {K : PySem.W.Frag} {M : MM} {Q : Ent → MM → Prop}
theorem c_wordsFrom {kvs : IVs} {ats : List F97} {m : Int} (ps : List (List F97)) (n : Nat) (e : m = (n : Int)) (h1 : ats.Nodup) (h2 : ats.length ≤ 12) (h3 : ps.length ≤ 1000) (h4 : ∀ p ∈ ps, p.length = ats.length) (h5 : ats = [] → ps = []) (h6 : ∀ x ∈ ats, getI kvs (fI x) = some (wordD ps x)) (h7 : n ≤ 97) (q : Q (.dat (.tuple (wordsP ps n))) M) : Cb K (fun vs H Q => SpQ K rWordsFrom vs H Q E0) [.dat (dicI kvs), .dat (.list (fDs ats)), .dat (.int m)] M Q := by
  subst e
  exact c_Q (.cons (.cons (.cons .nil))) _ ⟨kvs, ats, ps, n, rfl, h1, h2, h3, h4, h5, h6, h7, rfl⟩ fun r e => by rw [e]; exact q
end
theorem cols_eq {ats : List F97} {ps : List (List F97)} (h : ats = [] → ps = []) : colsD ps.length (ats.map fun x => fDs (atP ps x)) = ps.map fun p => PyData.tuple (fDs (ats.map (Yw.ev p))) := by
  unfold colsD
  by_cases c : ats = []
  · rw [h c, c]
    rfl
  · rw [if_neg (fun z => c (List.map_eq_nil_iff.mp z))]
    apply List.ext_getElem?
    intro i
    rw [List.getElem?_map, List.getElem?_map]
    by_cases hi : i < ps.length
    · rw [List.getElem?_range hi, List.getElem?_eq_getElem hi]
      show some (PyData.tuple _) = some (PyData.tuple _)
      congr 2
      unfold fDs
      rw [List.map_map, List.map_map]
      refine List.map_congr_left fun x _ => ?_
      show (List.map fD (atP ps x)).getD i .none = fD (Yw.ev ps[i] x)
      unfold atP
      rw [List.getD_eq_getElem?_getD, List.getElem?_map, List.getElem?_map, List.getElem?_eq_getElem hi]
      rfl
    · rw [List.getElem?_eq_none (by rw [List.length_range]; omega), List.getElem?_eq_none (by omega)]
      rfl
section
variable {P : Program} {w : World} {K : PySem.W.Frag} {mg : Str → Option Value} {base : Heap}
set_option maxHeartbeats 4000000 in
theorem ok_words_from (B : Bt mg) (D_weights_at : Has P w K mg base 2 "weights_at" ["ats", "at"] (SpQ K rWeightsAt)) (D_weighed : Has P w K mg base 1 "weighed" ["weights", "values"] (SpQ K rWeighedT)) (T : Stands K mg "words_from" s_words_from ["known", "places", "many"]) : Has P w K mg base 3 "words_from" ["known", "places", "many"] (SpQ K rWordsFrom) := by
  refine hasQ T sc_words_from (fun ds po ⟨kvs, ats, ps, n, e, _⟩ => by rw [e]; rfl) 6 rfl fun f cdv A outer s H E g hr => ⟨_, (pss_cons (ps_setLc (i := 3) (own := [("place", 7)]) (g := gName 7) (tt := tYes) rfl sc_words_from.nd rfl rfl (sw_true rfl rfl rfl (by decide +kernel)) (pi_list (pv 1)) (blkOk_by (N := N_words_from) (sc := defScope s_words_from) (by decide +kernel)) (fun _ _ _ _ _ => (pg_name (i := 7) sc_words_from.nd rfl (by first | exact .inl rfl | exact .inr rfl))) (fun _ _ _ _ _ => pts_nil) (fun _ _ _ _ _ => (pe_dget (Nat.lt_of_le_of_lt (Nat.add_le_add_left (by decide) _) (room66 hr)) (pv 0) (pv 7) (fun _ _ => rfl))))
      (pss_cons (ps_set (i := 4) sc_words_from.nd rfl (by first | exact .inl rfl | exact .inr rfl) (pe_lst pa_nil))
      (pss_cons (ps_for PassesOwn.never rfl (pi_range1 (by rfl) B.b_range (pa_cons (pv 2) pa_nil)) (pg_name (i := 5) sc_words_from.nd rfl (by first | exact .inl rfl | exact .inr rfl)) (pss_cons (ps_set (i := 6) sc_words_from.nd rfl (by first | exact .inl rfl | exact .inr rfl) (peD D_weights_at g hr (by first | decide | exact Nat.le_refl _ | omega) (by rfl) (pa_cons (pv 1) (pa_cons (pv 5) pa_nil))))
      (pss_one (ps_expr (pe_bm PySem.F.plainAttrs_list PySem.F.slot_list_append PySem.F.type_list_append mt_append (pv 4) (pa_cons (pe_callTy call_tuple_of (by rfl) B.b_tuple (by decide +kernel) (pa_cons (pe_lc (own := [("symbols", 8)]) (g := gName 8) (tt := tYes) rfl sc_words_from.nd (pi_zipS (by rfl) B.b_zip (pv 3)) (blkOk_by (N := N_words_from) (sc := defScope s_words_from) (by decide +kernel)) (fun _ _ _ _ _ => (pg_name (i := 8) sc_words_from.nd rfl (by first | exact .inl rfl | exact .inr rfl))) (fun _ _ _ _ _ => pts_nil) (fun _ _ _ _ _ => (peD D_weighed g hr (by first | decide | exact Nat.le_refl _ | omega) (by rfl) (pa_cons (pv 6) (pa_cons (pv 8) pa_nil))))) pa_nil)) pa_nil))))))
      (pss_one (ps_ret (pe_callTy call_tuple_of (by rfl) B.b_tuple (by decide +kernel) (pa_cons (pv 4) pa_nil))))))), ?_⟩
  try dsimp only [cxOf]
  rintro ds po ⟨kvs, ats, ps, n, rfl, nd, l12, l1000, lens, emp, gets, n97, rfl⟩
  repeat' walk_at "yy"
  refine ev_lc (own_name (by decide)) ?_
  repeat' walk_at "yy"
  refine ⟨fun k acc M => acc = ((ats.take k).map fun x => fDs (atP ps x)).map PyData.tuple ∧ M = [], ⟨rfl, rfl⟩, fun k d acc M hd e => ?_, fun acc M e => ?_⟩
  · obtain ⟨e, rfl⟩ := e
    obtain ⟨x, hx, rfl⟩ := fDs_at hd
    have hk := (List.getElem?_eq_some_iff.mp hx).1
    refine ⟨by rw [e, List.length_map, List.length_map, List.length_take]; omega, ?_⟩
    repeat' (first | exact absurd ‹true = false› (by decide) | refine ev_dgetD ?_ | walk_at "yy")
    refine ⟨kvs, _, _, rfl, rfl, gets x (List.mem_of_getElem? hx), ?_⟩
    refine ⟨_, rfl, ?_, rfl⟩
    rw [e, ← take_put hx, List.map_append, List.map_append]
    rfl
  · obtain ⟨e, rfl⟩ := e
    rw [fDs_len, List.take_length] at e
    subst e
    repeat' walk_at "yy"
    intro p hp
    repeat' walk_at "yy"
    refine sj_for ?_
    repeat' walk_at "yy"
    rw [show rgD 0 (Int.toNat (n : Int)) = fDs (plF n) from by rw [Int.toNat_natCast, rg_pl n97]]
    refine ⟨⟨by omega, by omega⟩, ?_⟩
    refine ⟨fun k es M => ∃ e5 e6 e7 e8, es = [.dat (dicI kvs), .dat (.list (fDs ats)), .dat (.int (n : Int)), .dat (.list ((ats.map fun x => fDs (atP ps x)).map PyData.tuple)), .ref p, e5, e6, e7, e8] ∧ M = [(p, .lst ((wordsP ps n).take k))], ⟨_, _, _, _, rfl, rfl⟩, ?_, ?_⟩
    · rintro k d es M hd ⟨e5, e6, e7, e8, rfl, rfl⟩
      obtain ⟨x, hx, rfl⟩ := fDs_at hd
      have hk := (List.getElem?_eq_some_iff.mp hx).1
      rw [plF_len] at hk
      have hw : (wordsP ps n)[k]? = some (wordD ps x) := by
        unfold wordsP
        rw [List.getElem?_map, hx]
        rfl
      repeat' walk_at "yy"
      refine c_weightsAt (by omega) ?_
      repeat' walk_at "yy"
      refine ⟨ty_ref (List.Mem.head _), ?_⟩
      repeat' walk_at "yy"
      refine ev_lc (own_name (by decide)) ?_
      repeat' walk_at "yy"
      refine ⟨_, ps.length, rfl, by rw [List.length_map]; exact l12, fun r hr => ?_, ?_⟩
      · obtain ⟨y, _, rfl⟩ := List.mem_map.mp hr
        rw [fDs_len, atP_len]
      rw [cols_eq emp]
      refine ⟨fun j acc M2 => acc = fDs ((atP ps x).take j) ∧ M2 = [(p, .lst ((wordsP ps n).take k))], ⟨rfl, rfl⟩, fun j d acc M2 hd e => ?_, fun acc M2 e => ?_⟩
      · obtain ⟨e, rfl⟩ := e
        rw [List.getElem?_map] at hd
        obtain ⟨q, hq, rfl⟩ := Option.map_eq_some_iff.mp hd
        have hj := (List.getElem?_eq_some_iff.mp hq).1
        refine ⟨by rw [e, fDs_len, List.length_take]; omega, ?_⟩
        repeat' (first | exact absurd ‹true = false› (by decide) | refine c_weighedT (by unfold wts; rw [List.length_map]; omega) ?_ | walk_at "yy")
        refine ⟨?_, rfl⟩
        rw [wsum_ok nd (lens q (List.mem_of_getElem? hq)) rfl, e]
        refine fDs_put ?_
        unfold atP
        rw [List.getElem?_map, hq]
        rfl
      · obtain ⟨e, rfl⟩ := e
        rw [List.length_map, ← atP_len ps x, List.take_length] at e
        subst e
        repeat' walk_at "yy"
        refine c_tuple (.lst _) ?_
        repeat' walk_at "yy"
        refine m_append (Ma := []) (Mb := []) rfl (by rw [List.length_take]; omega) ?_
        refine ⟨_, _, _, _, rfl, ?_⟩
        rw [← take_put hw]
        rfl
    · rintro es M ⟨e5, e6, e7, e8, rfl, rfl⟩
      rw [fDs_len, plF_len, List.take_of_length_le (by rw [wordsP_len]; exact Nat.le_refl _)]
      refine sj_fast [] [] rfl hp (.keep (.keep (.keep (.keep (.hit (.keep (.keep (.keep (.keep .nil))))))))) ?_
      repeat' walk_at "yy"
      refine c_tuple (.lst _) ?_
      repeat' walk_at "yy"
      rfl
end
end K53

set_option Elab.async false
set_option linter.all false
set_option maxRecDepth 100000
set_option maxHeartbeats 1000000
set_option exponentiation.threshold 20000
namespace K53
open PySem PySem.Spec PyProof.Rows L2 Yw
local macro_rules | `(tactic| walk_at "ye") => `(tactic| first
  | ((with_reducible show Ev _ (tVar _) _ _ _); first | refine ev_dat rfl ?_ | refine ev_ref rfl ?_ | refine ev_var rfl (fun z => nomatch z) ?_)
  | ((with_reducible show Ev _ (tC _) _ _ _); first | with_reducible refine ev_int ?_ | with_reducible refine ev_bl ?_ | with_reducible refine ev_non ?_ | with_reducible refine ev_str ?_ | with_reducible refine ev_ty ?_)
  | with_reducible refine ev_op ?_
  | with_reducible refine ev_un ?_
  | with_reducible refine ev_go ?_
  | with_reducible refine ev_cb ?_
  | with_reducible refine ev_tupD ?_
  | with_reducible refine ev_lstD ?_
  | with_reducible refine ev_chain ?_
  | with_reducible refine ev_if ?_
  | with_reducible refine ev_andV ?_
  | with_reducible refine ev_orV ?_
  | with_reducible refine ev_notV ?_
  | with_reducible refine ev_sl ?_
  | with_reducible refine ev_bm ?_)
local macro_rules | `(tactic| walk_at "ya") => `(tactic| first
  | with_reducible refine ea_cons ?_
  | with_reducible refine ea_nil ?_
  | with_reducible refine eo_none ?_
  | with_reducible refine eo_some ?_
  | with_reducible refine et_test ?_
  | with_reducible refine et_B ?_
  | with_reducible refine et_and ?_
  | with_reducible refine et_or ?_
  | with_reducible refine et_not ?_
  | with_reducible refine et_yes ?_
  | with_reducible refine tg_name ?_
  | with_reducible refine tgs_nil ?_
  | with_reducible refine tgs_cons ?_
  | ((with_reducible show Tg _ (gTup _ _ _) _ _ _ _); refine tg_tup rfl ?_)
  | with_reducible refine tg_sub ?_)
local macro_rules | `(tactic| walk_at "ys") => `(tactic| first
  | with_reducible refine sj_seq ?_
  | with_reducible refine sj_next ?_
  | with_reducible refine sj_newD ?_
  | with_reducible refine sj_set ?_
  | with_reducible refine sj_par ?_
  | with_reducible refine sj_ret ?_
  | with_reducible refine sj_drop ?_
  | with_reducible refine sj_if ?_
  | with_reducible refine sj_asg ?_
  | with_reducible refine sj_augS ?_
  | with_reducible refine iw_seq ?_
  | with_reducible refine iw_zip ?_
  | with_reducible refine iw_list ?_
  | with_reducible refine iw_tup ?_
  | with_reducible refine iw_r1 ?_
  | with_reducible refine iw_r2 ?_
  | with_reducible refine iw_enumT ?_)
local macro_rules | `(tactic| walk_at "yo") => `(tactic| first
  | with_reducible refine o_int ?_
  | with_reducible refine o_bool ?_
  | with_reducible refine o_mul (by first | exact mulR ⟨by decide, by decide⟩ | exact mulL ⟨by decide, by decide⟩) ?_
  | with_reducible refine o_mul ?_ ?_
  | with_reducible refine o_mod (by decide) ?_
  | with_reducible refine o_mod ?_ ?_
  | with_reducible refine o_div (by decide) (by decide +kernel) ?_
  | with_reducible refine o_cat ?_ ?_
  | with_reducible refine o_catT ?_ ?_
  | ((with_reducible show Op2 _ (rIxL _) (Ent.ref _) _ _ _); refine o_ixM (List.Mem.head _) rfl ?_)
  | with_reducible refine o_eqI ?_
  | with_reducible refine o_neI ?_
  | with_reducible refine o_eqS ?_
  | with_reducible refine o_neS ?_
  | with_reducible refine o_neg ?_
  | ((with_reducible show Op2 _ (rIxT _) _ _ _ _); refine o_ixT rfl ?_)
  | ((with_reducible show Op2 _ (rIxL _) (Ent.dat _) _ _ _); refine o_ixL rfl ?_)
  | ((with_reducible show Op2 _ (rI CPow _) _ _ _ _); refine o_pow ⟨by decide, by decide, by decide⟩ rfl ?_)
  | with_reducible refine c_abs ?_
  | with_reducible refine c_int ?_
  | with_reducible refine c_min2 ?_
  | with_reducible refine c_max2 ?_
  | with_reducible refine c_gcd ?_
  | with_reducible refine sl_L ?_
  | with_reducible refine c_len (.lst _) ?_
  | with_reducible refine c_len (.tup _) ?_)
local macro_rules | `(tactic| walk_at "yx") => `(tactic| first
  | with_reducible refine ⟨_, rfl, ?_⟩
  | with_reducible refine ⟨_, _, rfl, ?_⟩
  | with_reducible refine ⟨fun _ => ?_, fun _ => ?_⟩
  | ((with_reducible show ∃ _ _ _ _ _ _, _ = _ ∧ _ = _ ∧ _ = _ ∧ _ = _ ∧ _); refine ⟨[], _, _, _, _, _, rfl, rfl, rfl, rfl, ?_⟩)
  | ((with_reducible show ∃ _ _ _ _ _, _ = _ ∧ _ = _ ∧ _ ∧ _ ∧ _ ∧ _ = _ ∧ _ = _ ∧ _); refine ⟨_, _, _, _, _, rfl, rfl, List.Mem.head _, by decide, by decide, rfl, rfl, ?_⟩)
  | ((with_reducible show ∃ _ _ _, _ = _ ∧ _ = _ ∧ _); refine ⟨[], _, _, rfl, rfl, ?_⟩)
  | ((with_reducible show ∃ _, Ds _ _ ∧ _ ∧ _); refine ⟨_, (by repeat (first | exact Ds.nil | apply Ds.cons)), (by simp), ?_⟩))
local macro_rules | `(tactic| walk_at "yy") => `(tactic| first | walk_at "ye" | walk_at "ya" | walk_at "ys" | walk_at "yo" | walk_at "yx" | walk_at "yc")

/-! ### words by their places, and what goes through them -/
def tF (p : List F97) : PyData := .tuple (fDs p)
def knW (w : F97 → List F97) (xs : List F97) : IVs := xs.map fun x => (fI x, tF (w x))
def wordsW (w : F97 → List F97) (N : Nat) : List PyData := (plF N).map fun x => tF (w x)
theorem knW_len (w : F97 → List F97) (xs : List F97) : (knW w xs).length = xs.length := List.length_map _
theorem knW_keys (w : F97 → List F97) (xs : List F97) : (knW w xs).map (·.1) = xs.map fI := by unfold knW; rw [List.map_map]; rfl
theorem wordsW_len (w : F97 → List F97) (N : Nat) : (wordsW w N).length = N := by unfold wordsW; rw [List.length_map, plF_len]
theorem wordsW_at {w : F97 → List F97} {n k : Nat} (h : k < n) : (wordsW w n)[k]? = some (tF (w (toF (k : Int)))) := by
  unfold wordsW
  rw [List.getElem?_map, plF_at h]
  rfl
theorem keys_w (w : F97 → List F97) (xs : List F97) : ((knW w xs).map fun q => PyData.int q.1) = fDs xs := by
  unfold knW fDs
  rw [List.map_map]
  rfl
theorem knW_get {w : F97 → List F97} {x : F97} : ∀ {xs : List F97}, x ∈ xs → getI (knW w xs) (fI x) = some (tF (w x))
  | [], h => nomatch h
  | y :: r, h => by
    show getI ((fI y, tF (w y)) :: knW w r) _ = _
    rw [getI_cons]
    by_cases c : y = x
    · subst c; rw [if_pos rfl]
    · rw [if_neg fun z => c (fI_inj z)]
      exact knW_get ((List.mem_cons.mp h).resolve_left fun z => c z.symm)
theorem knW_put {w : F97 → List F97} {xs : List F97} {k : Nat} {x : F97} (h : xs[k]? = some x) : knW w (xs.take k) ++ [(fI x, tF (w x))] = knW w (xs.take (k + 1)) := by
  rw [← take_put h]
  unfold knW
  rw [List.map_append]
  rfl
theorem ints_f (zs : List F97) : (zs.map fI).map PyData.int = fDs zs := by
  unfold fDs
  rw [List.map_map]
  rfl
structure LotOk (xs : List F97) (n : Nat) : Prop where
  nd : xs.Nodup
  lt : ∀ x ∈ xs, fI x < (n : Int)
theorem lot_len {xs : List F97} {n : Nat} (h : LotOk xs n) (hn : n ≤ 97) : xs.length ≤ n := by
  have := nodup_lt n (xs.map fun x => x.val) (List.Pairwise.map _ (fun a b h z => h (Fin.ext z)) h.nd) fun y hy => by
    obtain ⟨x, hx, rfl⟩ := List.mem_map.mp hy
    have e := h.lt x hx
    unfold fI at e
    omega
  rwa [List.length_map] at this
theorem LotOk.perm {xs zs : List F97} {n : Nat} (h : LotOk xs n) (p : zs.Perm xs) : LotOk zs n := ⟨p.nodup_iff.mpr h.nd, fun x hx => h.lt x (p.mem_iff.mp hx)⟩
theorem LotOk.take {xs : List F97} {n : Nat} (h : LotOk xs n) (k : Nat) : LotOk (xs.take k) n := ⟨h.nd.sublist (List.take_sublist _ _), fun x hx => h.lt x (List.mem_of_mem_take hx)⟩
theorem lot_all {n : Nat} (h : n ≤ 97) : LotOk (plF n) n := ⟨plF_nodup h, fun x hx => (plF_mem h).mp hx⟩
theorem rng {n m : Nat} (h : n ≤ m) : (plF m).take n = plF n := by
  unfold plF
  rw [← List.map_take, List.take_range, Nat.min_eq_left h]
theorem wordsW_take {w : F97 → List F97} {n m : Nat} (h : n ≤ m) : (wordsW w m).take n = wordsW w n := by
  unfold wordsW
  rw [← List.map_take, rng h]
theorem cut2 (a b c d : PyData) : cutY [a, b, c, d] (some 2) none = [c, d] := rfl
theorem rgN {many spare : Nat} (h : many + spare ≤ 97) : rgD 0 (Int.toNat ((many : Int) + (spare : Int))) = fDs (plF (many + spare)) := by
  rw [show ((many : Int) + (spare : Int)).toNat = many + spare by omega, rg_pl h]
theorem wordsP_i {ps : List (List F97)} {n : Nat} {x : F97} (h : fI x < (n : Int)) : atI (wordsP ps n) (fI x) = some (wordD ps x) := by
  have := fI_lt x
  have e : fI x = ((fI x).toNat : Nat) := by omega
  rw [e]
  refine atI_nat ?_
  rw [wordsP_at (by omega), ← e, toF_fI]
theorem word_i {l : List F97} {i : Nat} (h : i < l.length) : atI (fDs l) (i : Int) = some (fD (l.getD i 0)) := by
  refine atI_nat ?_
  unfold fDs
  rw [List.getElem?_map, List.getD_eq_getElem?_getD, List.getElem?_eq_getElem h]
  rfl
/-- the places in order -/
def srtF (xs : List F97) : List F97 := xs.mergeSort fun a b => decide (fI a ≤ fI b)
theorem srtF_perm (xs : List F97) : (srtF xs).Perm xs := List.mergeSort_perm xs _
theorem srtF_asc (xs : List F97) : (srtF xs).Pairwise fun a b => fI a ≤ fI b := by
  have h := List.pairwise_mergeSort (le := fun a b : F97 => decide (fI a ≤ fI b)) (fun a b c h1 h2 => by simp at *; omega) (fun a b => by simp; omega) xs
  exact h.imp fun h => by simpa using h
theorem uniqF : ∀ {a b : List F97}, a.Perm b → a.Pairwise (fun x y => fI x ≤ fI y) → b.Pairwise (fun x y => fI x ≤ fI y) → a = b
  | [], b, p, _, _ => (List.Perm.nil_eq p)
  | x :: a, [], p, _, _ => nomatch List.Perm.length_eq p
  | x :: a, y :: b, p, s, t => by
    obtain ⟨s1, s2⟩ := List.pairwise_cons.mp s
    obtain ⟨t1, t2⟩ := List.pairwise_cons.mp t
    have e : x = y := by
      rcases List.mem_cons.mp (p.mem_iff.mp List.mem_cons_self) with h | h
      · exact h
      · rcases List.mem_cons.mp (p.mem_iff.mpr List.mem_cons_self) with g | g
        · exact g.symm
        · have a1 := t1 x h
          have a2 := s1 y g
          exact fI_inj (by omega)
    subst e
    rw [uniqF (List.Perm.cons_inv p) s2 t2]
theorem srtF_of {ys : List Int} {xs : List F97} (p : ys.Perm (xs.map fI)) (s : ys.Pairwise (· ≤ ·)) : ys = (srtF xs).map fI := by
  obtain ⟨zs, rfl, pz⟩ := sort_back p
  rw [uniqF (pz.trans (srtF_perm xs).symm) (List.pairwise_map.mp s) (srtF_asc xs)]
theorem srtF_pl {n : Nat} (h : n ≤ 97) : srtF (plF n) = plF n := by
  refine uniqF (srtF_perm _) (srtF_asc _) ?_
  unfold plF
  refine List.pairwise_map.mpr (List.Pairwise.imp_of_mem (fun {a b} ha hb c => ?_) (List.pairwise_lt_range (n := n)))
  have ha := List.mem_range.mp ha
  have hb := List.mem_range.mp hb
  rw [fI_pl (by omega), fI_pl (by omega)]
  omega
/-- what goes through the words at the places -/
def thW (ats : List F97) (w : F97 → List F97) (i : Nat) : List F97 := thrP ats fun x => (w x).getD i 0
def IP (W : Nat) (ats : List F97) (w : F97 → List F97) : List (List F97) := (List.range W).map (thW ats w)
theorem IP_len (W : Nat) (ats : List F97) (w : F97 → List F97) : (IP W ats w).length = W := by unfold IP; rw [List.length_map, List.length_range]
theorem IP_lens {W : Nat} {ats : List F97} {w : F97 → List F97} (hn : ats.Nodup) : ∀ p ∈ IP W ats w, p.length = ats.length := fun p hp => by
  obtain ⟨i, _, rfl⟩ := List.mem_map.mp hp
  exact thrP_len hn _
theorem IP_eq {W : Nat} {ats : List F97} {w : F97 → List F97} {x : F97} (hw : (w x).length = W) : atP (IP W ats w) x = w x ↔ ∀ i, i < W → Yw.ev (thW ats w i) x = (w x).getD i 0 := by
  unfold atP IP
  rw [List.map_map]
  constructor
  · intro h i hi
    have e := congrArg (fun l : List F97 => l[i]?) h
    simp only [List.getElem?_map] at e
    rw [List.getElem?_range hi] at e
    rw [List.getD_eq_getElem?_getD, ← e]
    rfl
  · intro h
    refine List.ext_getElem? fun i => ?_
    rw [List.getElem?_map]
    by_cases hi : i < W
    · rw [List.getElem?_range hi]
      have := h i hi
      rw [List.getD_eq_getElem?_getD, List.getElem?_eq_getElem (by omega)] at this
      rw [List.getElem?_eq_getElem (by omega)]
      exact congrArg some this
    · rw [List.getElem?_eq_none (by rw [List.length_range]; omega), List.getElem?_eq_none (by omega)]
      rfl
theorem IP_at {W : Nat} {ats : List F97} {w : F97 → List F97} (hn : ats.Nodup) {x : F97} (hx : x ∈ ats) (hw : (w x).length = W) : atP (IP W ats w) x = w x := (IP_eq hw).mpr fun i hi => thrP_ev hn hx
theorem IP_word {W : Nat} {ats : List F97} {w : F97 → List F97} (hn : ats.Nodup) {x : F97} (hx : x ∈ ats) (hw : (w x).length = W) : wordD (IP W ats w) x = tF (w x) := by
  unfold wordD tF
  rw [IP_at hn hx hw]
theorem eqv_w (ps : List (List F97)) (x : F97) (l : List F97) : PyData.eqv (wordD ps x) (tF l) = decide (atP ps x = l) := by
  unfold wordD tF
  rw [fDs_row, fDs_row, eqv_rows]
  by_cases h : atP ps x = l
  · rw [h]; simp
  · rw [decide_eq_false h, decide_eq_false fun z => h (fDs_inj z)]
theorem eqv_tups (f g : F97 → PyData) : ∀ l : List F97, PyData.eqv (.tuple (l.map f)) (.tuple (l.map g)) = l.all fun x => PyData.eqv (f x) (g x)
  | [] => rfl
  | x :: l => by
    have e : PyData.eqv (.tuple ((x :: l).map f)) (.tuple ((x :: l).map g)) = (PyData.eqv (f x) (g x) && PyData.eqv (.tuple (l.map f)) (.tuple (l.map g))) := rfl
    rw [e, eqv_tups f g l, List.all_cons]
theorem eqv_ws (ps : List (List F97)) (w : F97 → List F97) (n : Nat) : PyData.eqv (.tuple (wordsP ps n)) (.tuple (wordsW w n)) = decide (∀ x ∈ plF n, atP ps x = w x) := by
  unfold wordsP wordsW
  rw [eqv_tups]
  rw [Bool.eq_iff_iff, List.all_eq_true, decide_eq_true_iff]
  refine forall_congr' fun x => forall_congr' fun _ => ?_
  rw [eqv_w, decide_eq_true_iff]
theorem wt_t {l : List F97} (h : l.length ≤ 100) : Wt 1403 1 (tF l) := wt_f (n := 100) _ h
theorem wt_ws {w : F97 → List F97} {W n : Nat} (hw : ∀ x, (w x).length = W) (h : W ≤ 100) (hn : n ≤ 20) : Wt 28103 2 (.tuple (wordsW w n)) :=
  Wt.tup (w := 1403) (dp := 1) (n := 20) (fun d hd => by
    obtain ⟨x, _, rfl⟩ := List.mem_map.mp hd
    exact wt_t (by rw [hw]; exact h)) (by rw [wordsW_len]; exact hn)
structure FO (many spare : Nat) : Prop where
  m1 : 1 ≤ many
  m10 : many ≤ 10
  s5 : spare ≤ 5
structure WsOk (W : Nat) (w : F97 → List F97) : Prop where
  le : W ≤ 100
  len : ∀ x, (w x).length = W
/-- the least places, as many as are asked -/
def bse (many : Nat) (xs : List F97) : List F97 := (srtF xs).take many
theorem bse_ok {many N : Nat} {xs : List F97} (l : LotOk xs N) : LotOk (bse many xs) N := (l.perm (srtF_perm xs)).take many
theorem bse_mem {many : Nat} {xs : List F97} {x : F97} (h : x ∈ bse many xs) : x ∈ xs := (srtF_perm xs).mem_iff.mp (List.mem_of_mem_take h)
theorem bse_len (many : Nat) (xs : List F97) : (bse many xs).length = min many xs.length := by unfold bse; rw [List.length_take, (srtF_perm xs).length_eq]
theorem bse_pl {many N : Nat} (h : many ≤ N) (hN : N ≤ 97) : bse many (plF N) = plF many := by unfold bse; rw [srtF_pl hN, rng h]
def agr (W many : Nat) (w : F97 → List F97) (xs : List F97) : Bool := decide (∀ x ∈ xs, atP (IP W (bse many xs) w) x = w x)
theorem agr_iff {W many N : Nat} {w : F97 → List F97} {xs : List F97} (o : WsOk W w) (l : LotOk xs N) : agr W many w xs = true ↔ ∀ i, i < W → ∀ x ∈ (srtF xs).drop many, Yw.ev (thW (bse many xs) w i) x = (w x).getD i 0 := by
  unfold agr
  rw [decide_eq_true_iff]
  have nb := (bse_ok (many := many) l).nd
  constructor
  · intro h i hi x hx
    exact (IP_eq (o.len x)).mp (h x ((srtF_perm xs).mem_iff.mp (List.mem_of_mem_drop hx))) i hi
  · intro h x hx
    have hx := (srtF_perm xs).mem_iff.mpr hx
    rw [← List.take_append_drop many (srtF xs)] at hx
    rcases List.mem_append.mp hx with c | c
    · exact IP_at nb c (o.len x)
    · exact (IP_eq (o.len x)).mpr fun i hi => h i hi x c
/-- the polynomials of a group are those through its words -/
theorem IP_grp {many : Nat} {ps : List (List F97)} (hl : ∀ p ∈ ps, p.length = many) (hm : many ≤ 97) : IP ps.length (plF many) (atP ps) = ps := by
  refine List.ext_getElem? fun i => ?_
  unfold IP
  rw [List.getElem?_map]
  by_cases hi : i < ps.length
  · rw [List.getElem?_range hi, List.getElem?_eq_getElem hi]
    show some (thW _ _ i) = _
    congr 1
    have nd := plF_nodup hm
    refine one_poly (xs := plF many) (thrP_len nd _) (by rw [plF_len]; exact hl _ (List.getElem_mem hi)) nd fun x hx => ?_
    unfold thW
    rw [thrP_ev nd hx]
    unfold atP
    rw [List.getD_eq_getElem?_getD, List.getElem?_map, List.getElem?_eq_getElem hi]
    rfl
  · rw [List.getElem?_eq_none (by rw [List.length_range]; omega), List.getElem?_eq_none (by omega)]
    rfl
section
variable {P : Program} {w : World} {K : PySem.W.Frag} {mg : Str → Option Value} {base : Heap}

end
end K53

set_option Elab.async false
set_option linter.all false
set_option maxRecDepth 100000
set_option maxHeartbeats 1000000
set_option exponentiation.threshold 20000
namespace K53
open PySem PySem.Spec PyProof.Rows L2 Yw
local macro_rules | `(tactic| walk_at "ye") => `(tactic| first
  | ((with_reducible show Ev _ (tVar _) _ _ _); first | refine ev_dat rfl ?_ | refine ev_ref rfl ?_ | refine ev_var rfl (fun z => nomatch z) ?_)
  | ((with_reducible show Ev _ (tC _) _ _ _); first | with_reducible refine ev_int ?_ | with_reducible refine ev_bl ?_ | with_reducible refine ev_non ?_ | with_reducible refine ev_str ?_ | with_reducible refine ev_ty ?_)
  | with_reducible refine ev_op ?_
  | with_reducible refine ev_un ?_
  | with_reducible refine ev_go ?_
  | with_reducible refine ev_cb ?_
  | with_reducible refine ev_tupD ?_
  | with_reducible refine ev_lstD ?_
  | with_reducible refine ev_chain ?_
  | with_reducible refine ev_if ?_
  | with_reducible refine ev_andV ?_
  | with_reducible refine ev_orV ?_
  | with_reducible refine ev_notV ?_
  | with_reducible refine ev_sl ?_
  | with_reducible refine ev_bm ?_)
local macro_rules | `(tactic| walk_at "ya") => `(tactic| first
  | with_reducible refine ea_cons ?_
  | with_reducible refine ea_nil ?_
  | with_reducible refine eo_none ?_
  | with_reducible refine eo_some ?_
  | with_reducible refine et_test ?_
  | with_reducible refine et_B ?_
  | with_reducible refine et_and ?_
  | with_reducible refine et_or ?_
  | with_reducible refine et_not ?_
  | with_reducible refine et_yes ?_
  | with_reducible refine tg_name ?_
  | with_reducible refine tgs_nil ?_
  | with_reducible refine tgs_cons ?_
  | ((with_reducible show Tg _ (gTup _ _ _) _ _ _ _); refine tg_tup rfl ?_)
  | with_reducible refine tg_sub ?_)
local macro_rules | `(tactic| walk_at "ys") => `(tactic| first
  | with_reducible refine sj_seq ?_
  | with_reducible refine sj_next ?_
  | with_reducible refine sj_newD ?_
  | with_reducible refine sj_set ?_
  | with_reducible refine sj_par ?_
  | with_reducible refine sj_ret ?_
  | with_reducible refine sj_drop ?_
  | with_reducible refine sj_if ?_
  | with_reducible refine sj_asg ?_
  | with_reducible refine sj_augS ?_
  | with_reducible refine iw_seq ?_
  | with_reducible refine iw_zip ?_
  | with_reducible refine iw_list ?_
  | with_reducible refine iw_tup ?_
  | with_reducible refine iw_r1 ?_
  | with_reducible refine iw_r2 ?_
  | with_reducible refine iw_enumT ?_)
local macro_rules | `(tactic| walk_at "yo") => `(tactic| first
  | with_reducible refine o_int ?_
  | with_reducible refine o_bool ?_
  | with_reducible refine o_mul (by first | exact mulR ⟨by decide, by decide⟩ | exact mulL ⟨by decide, by decide⟩) ?_
  | with_reducible refine o_mul ?_ ?_
  | with_reducible refine o_mod (by decide) ?_
  | with_reducible refine o_mod ?_ ?_
  | with_reducible refine o_div (by decide) (by decide +kernel) ?_
  | with_reducible refine o_cat ?_ ?_
  | with_reducible refine o_catT ?_ ?_
  | ((with_reducible show Op2 _ (rIxL _) (Ent.ref _) _ _ _); refine o_ixM (List.Mem.head _) rfl ?_)
  | with_reducible refine o_eqI ?_
  | with_reducible refine o_neI ?_
  | with_reducible refine o_eqS ?_
  | with_reducible refine o_neS ?_
  | with_reducible refine o_neg ?_
  | ((with_reducible show Op2 _ (rIxT _) _ _ _ _); refine o_ixT rfl ?_)
  | ((with_reducible show Op2 _ (rIxL _) (Ent.dat _) _ _ _); refine o_ixL rfl ?_)
  | ((with_reducible show Op2 _ (rI CPow _) _ _ _ _); refine o_pow ⟨by decide, by decide, by decide⟩ rfl ?_)
  | with_reducible refine c_abs ?_
  | with_reducible refine c_int ?_
  | with_reducible refine c_min2 ?_
  | with_reducible refine c_max2 ?_
  | with_reducible refine c_gcd ?_
  | with_reducible refine sl_L ?_
  | with_reducible refine c_len (.lst _) ?_
  | with_reducible refine c_len (.tup _) ?_)
local macro_rules | `(tactic| walk_at "yx") => `(tactic| first
  | with_reducible refine ⟨_, rfl, ?_⟩
  | with_reducible refine ⟨_, _, rfl, ?_⟩
  | with_reducible refine ⟨fun _ => ?_, fun _ => ?_⟩
  | ((with_reducible show ∃ _ _ _ _ _ _, _ = _ ∧ _ = _ ∧ _ = _ ∧ _ = _ ∧ _); refine ⟨[], _, _, _, _, _, rfl, rfl, rfl, rfl, ?_⟩)
  | ((with_reducible show ∃ _ _ _ _ _, _ = _ ∧ _ = _ ∧ _ ∧ _ ∧ _ ∧ _ = _ ∧ _ = _ ∧ _); refine ⟨_, _, _, _, _, rfl, rfl, List.Mem.head _, by decide, by decide, rfl, rfl, ?_⟩)
  | ((with_reducible show ∃ _ _ _, _ = _ ∧ _ = _ ∧ _); refine ⟨[], _, _, rfl, rfl, ?_⟩)
  | ((with_reducible show ∃ _, Ds _ _ ∧ _ ∧ _); refine ⟨_, (by repeat (first | exact Ds.nil | apply Ds.cons)), (by simp), ?_⟩))
local macro_rules | `(tactic| walk_at "yy") => `(tactic| first | walk_at "ye" | walk_at "ya" | walk_at "ys" | walk_at "yo" | walk_at "yx" | walk_at "yc")

local macro_rules | `(tactic| walk_at "yc") => `(tactic| first | with_reducible refine isi_ii ?_ | with_reducible refine isi_ib ?_ | with_reducible refine isi_tt ?_)
/-! ### digits and words of any kind -/
def Ptd (d : PyData) : Prop := (∃ i, d = .int i) ∨ ∃ c, d = .bool c
def isI (d : PyData) : Bool := match d with
  | .int _ => true
  | _ => false
def dgB (d : PyData) : Bool := match d with
  | .int i => decide (0 ≤ i) && decide (i < 97)
  | _ => false
def Seqs (d : PyData) : Prop := d = .none ∨ (∃ ys, d = .list ys) ∨ ∃ ds, d = .tuple ds
def tupB (n : Int) (d : PyData) : Bool := match d with
  | .tuple ds => decide ((ds.length : Int) = n)
  | _ => false
def WdOk (d : PyData) : Prop := (∃ ys, d = .list ys) ∨ ∃ ds, d = .tuple ds ∧ ds.length ≤ 200 ∧ ∀ x ∈ ds, Ptd x
def wdB (W : Nat) (d : PyData) : Bool := match d with
  | .tuple ds => decide ((ds.length : Int) = (W : Int)) && ds.all dgB
  | _ => false
theorem WdOk.seqs {d : PyData} (h : WdOk d) : Seqs d := by
  rcases h with h | ⟨ds, e, _⟩
  · exact .inr (.inl h)
  · exact .inr (.inr ⟨ds, e⟩)
def rIntX : RR := fun ds po => ∃ d, ds = [d] ∧ Ptd d ∧ po = fun r => r = .bool (isI d)
def rTupX : RR := fun ds po => ∃ (n : Int) (d : PyData), ds = [.int n, d] ∧ Seqs d ∧ po = fun r => r = .bool (tupB n d)
def rDigX : RR := fun ds po => ∃ d, ds = [.int 97, d] ∧ Ptd d ∧ po = fun r => r = .bool (dgB d)
def rWordX : RR := fun ds po => ∃ (W : Nat) (d : PyData), ds = [.int (W : Int), d] ∧ WdOk d ∧ po = fun r => r = .bool (wdB W d)
section
variable {K : PySem.W.Frag} {M : MM} {Q : Ent → MM → Prop} {d : PyData}
theorem c_intX (h : Ptd d) (p : Q (.dat (.bool (isI d))) M) : Cb K (fun vs H Q => SpQ K rIntX vs H Q E0) [.dat d] M Q := c_Q (.cons .nil) _ ⟨d, rfl, h, rfl⟩ fun r e => by rw [e]; exact p
theorem c_tupX {n : Int} (h : Seqs d) (p : Q (.dat (.bool (tupB n d))) M) : Cb K (fun vs H Q => SpQ K rTupX vs H Q E0) [.dat (.int n), .dat d] M Q := c_Q (.cons (.cons .nil)) _ ⟨n, d, rfl, h, rfl⟩ fun r e => by rw [e]; exact p
theorem c_digX (h : Ptd d) (p : Q (.dat (.bool (dgB d))) M) : Cb K (fun vs H Q => SpQ K rDigX vs H Q E0) [.dat (.int 97), .dat d] M Q := c_Q (.cons (.cons .nil)) _ ⟨d, rfl, h, rfl⟩ fun r e => by rw [e]; exact p
theorem c_wordX {n : Int} (W : Nat) (e : n = (W : Int)) (h : WdOk d) (p : Q (.dat (.bool (wdB W d))) M) : Cb K (fun vs H Q => SpQ K rWordX vs H Q E0) [.dat (.int n), .dat d] M Q := by
  subst e
  exact c_Q (.cons (.cons .nil)) _ ⟨W, d, rfl, h, rfl⟩ fun r e => by rw [e]; exact p
theorem isi_bi {c : Bool} (p : Q (.dat (.bool true)) M) : Cb K (rIsi K) [.dat (.bool c), .ty "int"] M Q := c_isi true (show kitB "bool" "int" = some true by decide +kernel) p
theorem isi_bb {c : Bool} (p : Q (.dat (.bool true)) M) : Cb K (rIsi K) [.dat (.bool c), .ty "bool"] M Q := c_isi true (show kitB "bool" "bool" = some true by decide +kernel) p
theorem isi_lt {ys : List PyData} (p : Q (.dat (.bool false)) M) : Cb K (rIsi K) [.dat (.list ys), .ty "tuple"] M Q := c_isi false (show kitB "list" "tuple" = some false by decide +kernel) p
theorem isi_nt (p : Q (.dat (.bool false)) M) : Cb K (rIsi K) [.dat .none, .ty "tuple"] M Q := c_isi false (show kitB "NoneType" "tuple" = some false by decide +kernel) p
end
section
variable {P : Program} {w : World} {K : PySem.W.Frag} {mg : Str → Option Value} {base : Heap}
theorem ok_is_integer (B : Bt mg)  (T : Stands K mg "is_integer" s_is_integer ["thing"]) : Has P w K mg base 1 "is_integer" ["thing"] (SpQ K rIntX) := by
  refine hasQ T sc_is_integer (fun ds po ⟨d, e, _⟩ => by rw [e]; rfl) 0 rfl fun f cdv A outer s H E g hr => ⟨_, (pss_one (ps_ret (pe_and (pe_callB call_isi (by rfl) B.b_isinstance (by decide +kernel) (pa_cons (pv 0) (pa_cons (pe_bltn (v := .ty "int") (by rfl) B.b_int (by rfl) rfl) pa_nil))) (pe_one (pe_not (pe_callB call_isi (by rfl) B.b_isinstance (by decide +kernel) (pa_cons (pv 0) (pa_cons (pe_bltn (v := .ty "bool") (by rfl) B.b_bool (by rfl) rfl) pa_nil)))))))), ?_⟩
  try dsimp only [cxOf]
  rintro ds po ⟨d, rfl, hd, rfl⟩
  rcases hd with ⟨i, rfl⟩ | ⟨c, rfl⟩
  all_goals repeat' (first | refine isi_bi ?_ | refine isi_bb ?_ | exact absurd ‹true = false› (by decide) | exact absurd ‹false = true› (by decide) | walk_at "yy")
  all_goals first | rfl | simp_all
theorem ok_l_is_int (B : Bt mg)  (T : Stands K mg "_law_is_int" s_l_is_int ["thing"]) : Has P w K mg base 1 "_law_is_int" ["thing"] (SpQ K rIntX) := by
  refine hasQ T sc_l_is_int (fun ds po ⟨d, e, _⟩ => by rw [e]; rfl) 0 rfl fun f cdv A outer s H E g hr => ⟨_, (pss_one (ps_ret (pe_and (pe_callB call_isi (by rfl) B.b_isinstance (by decide +kernel) (pa_cons (pv 0) (pa_cons (pe_bltn (v := .ty "int") (by rfl) B.b_int (by rfl) rfl) pa_nil))) (pe_one (pe_not (pe_callB call_isi (by rfl) B.b_isinstance (by decide +kernel) (pa_cons (pv 0) (pa_cons (pe_bltn (v := .ty "bool") (by rfl) B.b_bool (by rfl) rfl) pa_nil)))))))), ?_⟩
  try dsimp only [cxOf]
  rintro ds po ⟨d, rfl, hd, rfl⟩
  rcases hd with ⟨i, rfl⟩ | ⟨c, rfl⟩
  all_goals repeat' (first | refine isi_bi ?_ | refine isi_bb ?_ | exact absurd ‹true = false› (by decide) | exact absurd ‹false = true› (by decide) | walk_at "yy")
  all_goals first | rfl | simp_all
theorem ok_is_tuple_of (B : Bt mg)  (T : Stands K mg "is_tuple_of" s_is_tuple_of ["many", "thing"]) : Has P w K mg base 1 "is_tuple_of" ["many", "thing"] (SpQ K rTupX) := by
  refine hasQ T sc_is_tuple_of (fun ds po ⟨n, d, e, _⟩ => by rw [e]; rfl) 0 rfl fun f cdv A outer s H E g hr => ⟨_, (pss_one (ps_ret (pe_and (pe_callB call_isi (by rfl) B.b_isinstance (by decide +kernel) (pa_cons (pv 1) (pa_cons (pe_bltn (v := .ty "tuple") (by rfl) B.b_tuple (by rfl) rfl) pa_nil))) (pe_one (pe_cmpR op_eq (pe_callB call_len_seq (by rfl) B.b_len (by decide +kernel) (pa_cons (pv 1) pa_nil)) (pv 0) (nomark _)))))), ?_⟩
  try dsimp only [cxOf]
  rintro ds po ⟨n, d, rfl, hd, rfl⟩
  rcases hd with rfl | ⟨ys, rfl⟩ | ⟨ys, rfl⟩
  all_goals repeat' (first | refine isi_nt ?_ | refine isi_lt ?_ | exact absurd ‹true = false› (by decide) | exact absurd ‹false = true› (by decide) | walk_at "yy")
  all_goals first | rfl | simp_all
theorem ok_is_digit (B : Bt mg) (D_is_integer : Has P w K mg base 1 "is_integer" ["thing"] (SpQ K rIntX)) (T : Stands K mg "is_digit" s_is_digit ["base", "thing"]) : Has P w K mg base 2 "is_digit" ["base", "thing"] (SpQ K rDigX) := by
  refine hasQ T sc_is_digit (fun ds po ⟨d, e, _⟩ => by rw [e]; rfl) 0 rfl fun f cdv A outer s H E g hr => ⟨_, (pss_one (ps_ret (pe_and (peD D_is_integer g hr (by first | decide | exact Nat.le_refl _ | omega) (by rfl) (pa_cons (pv 1) pa_nil)) (pe_one (pe_chain op_le op_lt pe_int (pv 1) (pv 0)))))), ?_⟩
  try dsimp only [cxOf]
  rintro ds po ⟨d, rfl, hd, rfl⟩
  repeat' (first | refine c_intX hd ?_ | walk_at "yy")
  · rcases hd with ⟨i, rfl⟩ | ⟨c, rfl⟩
    · repeat' walk_at "yy"
      all_goals
        show _ = PyData.bool (decide (0 ≤ i) && decide (i < 97))
        first | (rw [show decide (0 ≤ i) = true from ‹_›]; rfl) | (rw [show decide (0 ≤ i) = false from ‹_›]; rfl)
    · exact absurd ‹isI (.bool c) = true› (by simp [isI])
  · rcases hd with ⟨i, rfl⟩ | ⟨c, rfl⟩
    · exact absurd ‹isI (.int i) = false› (by simp [isI])
    · rfl
theorem ok_is_word (B : Bt mg) (D_is_tuple_of : Has P w K mg base 1 "is_tuple_of" ["many", "thing"] (SpQ K rTupX)) (D_is_digit : Has P w K mg base 2 "is_digit" ["base", "thing"] (SpQ K rDigX)) (T : Stands K mg "is_word" s_is_word ["width", "thing"]) : Has P w K mg base 3 "is_word" ["width", "thing"] (SpQ K rWordX) := by
  refine hasQ T sc_is_word (fun ds po ⟨W, d, e, _⟩ => by rw [e]; rfl) 1 rfl fun f cdv A outer s H E g hr => ⟨_, (pss_one (ps_ret (pe_and (peD D_is_tuple_of g hr (by first | decide | exact Nat.le_refl _ | omega) (by rfl) (pa_cons (pv 0) (pa_cons (pv 1) pa_nil))) (pe_one (pe_callB (cr_all rfl) (by rfl) B.b_all (by decide +kernel) (pa_cons (pe_lc (own := [("part", 2)]) (g := gName 2) (tt := tYes) rfl sc_is_word.nd (pi_tup (pv 1)) (blkOk_by (N := N_is_word) (sc := defScope s_is_word) (by decide +kernel)) (fun _ _ _ _ _ => (pg_name (i := 2) sc_is_word.nd rfl (by first | exact .inl rfl | exact .inr rfl))) (fun _ _ _ _ _ => pts_nil) (fun _ _ _ _ _ => (peD D_is_digit g hr (by first | decide | exact Nat.le_refl _ | omega) (by rfl) (pa_cons (pe_globI (by rfl) B.g_SYMBOLS) (pa_cons (pv 2) pa_nil))))) pa_nil)))))), ?_⟩
  try dsimp only [cxOf]
  rintro ds po ⟨W, d, rfl, hd, rfl⟩
  repeat' (first | refine c_tupX hd.seqs ?_ | walk_at "yy")
  · rcases hd with ⟨ys, rfl⟩ | ⟨ys, rfl, yl, hy⟩
    · exact absurd ‹tupB _ (.list ys) = true› (by simp [tupB])
    · have t1 : tupB (W : Int) (.tuple ys) = true := ‹_›
      have t2 : decide ((ys.length : Int) = (W : Int)) = true := t1
      repeat' walk_at "yy"
      refine ev_lc (own_name (by decide)) ?_
      repeat' walk_at "yy"
      refine ⟨fun k acc M => acc = ((ys.take k).map dgB).map PyData.bool, rfl, fun k d acc M hd e => ?_, fun acc M e => ?_⟩
      · have hk := (List.getElem?_eq_some_iff.mp hd).1
        refine ⟨by rw [e, List.length_map, List.length_map, List.length_take]; omega, ?_⟩
        repeat' (first | exact absurd ‹true = false› (by decide) | refine c_digX (hy _ (List.mem_of_getElem? hd)) ?_ | walk_at "yy")
        show _ = _
        rw [e, ← take_put hd, List.map_append, List.map_append]
        rfl
      · have e : acc = ((ys.take ys.length).map dgB).map PyData.bool := e
        rw [List.take_length] at e
        subst e
        repeat' walk_at "yy"
        refine c_all ?_
        repeat' walk_at "yy"
        show _ = PyData.bool (decide ((ys.length : Int) = (W : Int)) && ys.all dgB)
        rw [t2, List.all_map]
        rfl
  · rcases hd with ⟨ys, rfl⟩ | ⟨ys, rfl, yl, hy⟩
    · rfl
    · have t1 : tupB (W : Int) (.tuple ys) = false := ‹_›
      have t2 : decide ((ys.length : Int) = (W : Int)) = false := t1
      show _ = PyData.bool (decide ((ys.length : Int) = (W : Int)) && ys.all dgB)
      rw [t2]
      first | rfl | (rw [t1]; rfl)
end
end K53

set_option Elab.async false
set_option linter.all false
set_option maxRecDepth 100000
set_option maxHeartbeats 1000000
set_option exponentiation.threshold 20000
namespace K53
open PySem PySem.Spec PyProof.Rows L2 Yw
local macro_rules | `(tactic| walk_at "ye") => `(tactic| first
  | ((with_reducible show Ev _ (tVar _) _ _ _); first | refine ev_dat rfl ?_ | refine ev_ref rfl ?_ | refine ev_var rfl (fun z => nomatch z) ?_)
  | ((with_reducible show Ev _ (tC _) _ _ _); first | with_reducible refine ev_int ?_ | with_reducible refine ev_bl ?_ | with_reducible refine ev_non ?_ | with_reducible refine ev_str ?_ | with_reducible refine ev_ty ?_)
  | with_reducible refine ev_op ?_
  | with_reducible refine ev_un ?_
  | with_reducible refine ev_go ?_
  | with_reducible refine ev_cb ?_
  | with_reducible refine ev_tupD ?_
  | with_reducible refine ev_lstD ?_
  | with_reducible refine ev_chain ?_
  | with_reducible refine ev_if ?_
  | with_reducible refine ev_andV ?_
  | with_reducible refine ev_orV ?_
  | with_reducible refine ev_notV ?_
  | with_reducible refine ev_sl ?_
  | with_reducible refine ev_bm ?_)
local macro_rules | `(tactic| walk_at "ya") => `(tactic| first
  | with_reducible refine ea_cons ?_
  | with_reducible refine ea_nil ?_
  | with_reducible refine eo_none ?_
  | with_reducible refine eo_some ?_
  | with_reducible refine et_test ?_
  | with_reducible refine et_B ?_
  | with_reducible refine et_and ?_
  | with_reducible refine et_or ?_
  | with_reducible refine et_not ?_
  | with_reducible refine et_yes ?_
  | with_reducible refine tg_name ?_
  | with_reducible refine tgs_nil ?_
  | with_reducible refine tgs_cons ?_
  | ((with_reducible show Tg _ (gTup _ _ _) _ _ _ _); refine tg_tup rfl ?_)
  | with_reducible refine tg_sub ?_)
local macro_rules | `(tactic| walk_at "ys") => `(tactic| first
  | with_reducible refine sj_seq ?_
  | with_reducible refine sj_next ?_
  | with_reducible refine sj_newD ?_
  | with_reducible refine sj_set ?_
  | with_reducible refine sj_par ?_
  | with_reducible refine sj_ret ?_
  | with_reducible refine sj_drop ?_
  | with_reducible refine sj_if ?_
  | with_reducible refine sj_asg ?_
  | with_reducible refine sj_augS ?_
  | with_reducible refine iw_seq ?_
  | with_reducible refine iw_zip ?_
  | with_reducible refine iw_list ?_
  | with_reducible refine iw_tup ?_
  | with_reducible refine iw_r1 ?_
  | with_reducible refine iw_r2 ?_
  | with_reducible refine iw_enumT ?_)
local macro_rules | `(tactic| walk_at "yo") => `(tactic| first
  | with_reducible refine o_int ?_
  | with_reducible refine o_bool ?_
  | with_reducible refine o_mul (by first | exact mulR ⟨by decide, by decide⟩ | exact mulL ⟨by decide, by decide⟩) ?_
  | with_reducible refine o_mul ?_ ?_
  | with_reducible refine o_mod (by decide) ?_
  | with_reducible refine o_mod ?_ ?_
  | with_reducible refine o_div (by decide) (by decide +kernel) ?_
  | with_reducible refine o_cat ?_ ?_
  | with_reducible refine o_catT ?_ ?_
  | ((with_reducible show Op2 _ (rIxL _) (Ent.ref _) _ _ _); refine o_ixM (List.Mem.head _) rfl ?_)
  | with_reducible refine o_eqI ?_
  | with_reducible refine o_neI ?_
  | with_reducible refine o_eqS ?_
  | with_reducible refine o_neS ?_
  | with_reducible refine o_neg ?_
  | ((with_reducible show Op2 _ (rIxT _) _ _ _ _); refine o_ixT rfl ?_)
  | ((with_reducible show Op2 _ (rIxL _) (Ent.dat _) _ _ _); refine o_ixL rfl ?_)
  | ((with_reducible show Op2 _ (rI CPow _) _ _ _ _); refine o_pow ⟨by decide, by decide, by decide⟩ rfl ?_)
  | with_reducible refine c_abs ?_
  | with_reducible refine c_int ?_
  | with_reducible refine c_min2 ?_
  | with_reducible refine c_max2 ?_
  | with_reducible refine c_gcd ?_
  | with_reducible refine sl_L ?_
  | with_reducible refine c_len (.lst _) ?_
  | with_reducible refine c_len (.tup _) ?_)
local macro_rules | `(tactic| walk_at "yx") => `(tactic| first
  | with_reducible refine ⟨_, rfl, ?_⟩
  | with_reducible refine ⟨_, _, rfl, ?_⟩
  | with_reducible refine ⟨fun _ => ?_, fun _ => ?_⟩
  | ((with_reducible show ∃ _ _ _ _ _ _, _ = _ ∧ _ = _ ∧ _ = _ ∧ _ = _ ∧ _); refine ⟨[], _, _, _, _, _, rfl, rfl, rfl, rfl, ?_⟩)
  | ((with_reducible show ∃ _ _ _ _ _, _ = _ ∧ _ = _ ∧ _ ∧ _ ∧ _ ∧ _ = _ ∧ _ = _ ∧ _); refine ⟨_, _, _, _, _, rfl, rfl, List.Mem.head _, by decide, by decide, rfl, rfl, ?_⟩)
  | ((with_reducible show ∃ _ _ _, _ = _ ∧ _ = _ ∧ _); refine ⟨[], _, _, rfl, rfl, ?_⟩)
  | ((with_reducible show ∃ _, Ds _ _ ∧ _ ∧ _); refine ⟨_, (by repeat (first | exact Ds.nil | apply Ds.cons)), (by simp), ?_⟩))
local macro_rules | `(tactic| walk_at "yy") => `(tactic| first | walk_at "ye" | walk_at "ya" | walk_at "ys" | walk_at "yo" | walk_at "yx" | walk_at "yc")

local macro_rules | `(tactic| walk_at "yc") => `(tactic| first | with_reducible refine isi_tt ?_)
/-! ### things: groups or not -/
def ThOk (N : Nat) (d : PyData) : Prop := d = .none ∨ (∃ ys, d = .list ys) ∨ ∃ ds, d = .tuple ds ∧ (ds.length = N → ∀ x ∈ ds, WdOk x)
theorem ThOk.seqs {N : Nat} {d : PyData} (h : ThOk N d) : Seqs d := by
  rcases h with h | h | ⟨ds, e, _⟩
  · exact .inl h
  · exact .inr (.inl h)
  · exact .inr (.inr ⟨ds, e⟩)
/-- what is said of a thing: false if it hasn't the form of a group, else whether its words agree -/
def Says (N W many : Nat) (d : PyData) (v : Bool) : Prop := (v = true → ∃ ds, d = .tuple ds ∧ ds.length = N ∧ ∀ x ∈ ds, wdB W x = true) ∧ ∀ w, WsOk W w → d = .tuple (wordsW w N) → v = decide (∀ x ∈ plF N, atP (IP W (plF many) w) x = w x)
theorem dg_all : ∀ {ds : List PyData}, ds.all dgB = true → ∃ p : List F97, ds = fDs p
  | [], _ => ⟨[], rfl⟩
  | d :: ds, h => by
    rw [List.all_cons, Bool.and_eq_true] at h
    obtain ⟨p, rfl⟩ := dg_all h.2
    cases d with
    | int i =>
      have h1 : (decide (0 ≤ i) && decide (i < 97)) = true := h.1
      rw [Bool.and_eq_true, decide_eq_true_iff, decide_eq_true_iff] at h1
      refine ⟨toF i :: p, ?_⟩
      show _ = PyData.int (fI (toF i)) :: fDs p
      rw [fI_toF h1.1 h1.2]
    | _ => exact absurd h.1 (by simp [dgB])
theorem wd_is {W : Nat} {d : PyData} (h : wdB W d = true) : ∃ p : List F97, d = tF p ∧ p.length = W := by
  cases d with
  | tuple ds =>
    have h1 : (decide ((ds.length : Int) = (W : Int)) && ds.all dgB) = true := h
    rw [Bool.and_eq_true, decide_eq_true_iff] at h1
    obtain ⟨p, rfl⟩ := dg_all h1.2
    refine ⟨p, rfl, ?_⟩
    have := h1.1
    rw [fDs_len] at this
    omega
  | _ => exact absurd h (by simp [wdB])
theorem dg_f (p : List F97) : (fDs p).all dgB = true := by
  rw [List.all_eq_true]
  intro d hd
  obtain ⟨x, _, rfl⟩ := List.mem_map.mp hd
  have := fI_lt x
  show (decide (0 ≤ fI x) && decide (fI x < 97)) = true
  rw [decide_eq_true this.1, decide_eq_true this.2]
  rfl
theorem wd_f {W : Nat} {p : List F97} (h : p.length = W) : wdB W (tF p) = true := by
  show (decide (((fDs p).length : Int) = (W : Int)) && (fDs p).all dgB) = true
  rw [fDs_len, h, dg_f, decide_eq_true rfl]
  rfl
theorem ok_f {p : List F97} (h : p.length ≤ 200) : WdOk (tF p) := .inr ⟨_, rfl, by rw [fDs_len]; exact h, fun d hd => by
  obtain ⟨x, _, rfl⟩ := List.mem_map.mp hd
  exact .inl ⟨_, rfl⟩⟩
/-- words in a row are words by their places -/
theorem by_place {N W : Nat} (hN : N ≤ 97) (hW : W ≤ 100) : ∀ {ds : List PyData}, ds.length = N → (∀ d ∈ ds, wdB W d = true) → ∃ w, WsOk W w ∧ ds = wordsW w N := fun {ds} hl hd => by
  have pick : ∀ k : Nat, ∃ p : List F97, p.length = W ∧ ∀ d, ds[k]? = some d → d = tF p := fun k => by
    cases e : ds[k]? with
    | none => exact ⟨List.replicate W 0, by simp, fun d z => nomatch z⟩
    | some d =>
      obtain ⟨p, e1, e2⟩ := wd_is (hd d (List.mem_of_getElem? e))
      exact ⟨p, e2, fun d2 z => by rw [← Option.some.inj z]; exact e1⟩
  refine ⟨fun x => (pick (fI x).toNat).choose, ⟨hW, fun x => (pick (fI x).toNat).choose_spec.1⟩, List.ext_getElem? fun k => ?_⟩
  by_cases hk : k < N
  · rw [wordsW_at hk, List.getElem?_eq_getElem (by omega)]
    congr 1
    have ex : (fI (toF (k : Int))).toNat = k := by rw [fI_pl (by omega)]; omega
    have := (pick (fI (toF (k : Int))).toNat).choose_spec.2 ds[k] (by rw [ex]; exact List.getElem?_eq_getElem (by omega))
    exact this
  · rw [List.getElem?_eq_none (by omega), List.getElem?_eq_none (by rw [wordsW_len]; omega)]
theorem says_one {N W many : Nat} {d : PyData} {u v : Bool} (hN : N ≤ 97) (hW : W ≤ 100) (a : Says N W many d u) (b : Says N W many d v) : u = v := by
  have go : ∀ {u v : Bool}, Says N W many d u → Says N W many d v → u = true → v = true := fun {u v} a b h => by
    obtain ⟨ds, e, l, g⟩ := a.1 h
    obtain ⟨w, hw, ew⟩ := by_place hN hW l g
    have e1 := a.2 w hw (by rw [e, ew])
    have e2 := b.2 w hw (by rw [e, ew])
    rw [e2, ← e1, h]
  cases u <;> cases v
  · rfl
  · exact (go b a rfl).symm ▸ rfl
  · exact (go a b rfl).symm ▸ rfl
  · rfl
def rSpreadW : RR := fun ds po => ∃ c dr sh le, ∃ (lo most n many spare W : Nat), ∃ w, ds = [frmD c dr sh lo most le n many spare, .tuple (wordsW w many)] ∧ FO many spare ∧ WsOk W w ∧ po = fun r => r = .tuple (wordsP (IP W (plF many) w) (many + spare))
def rIsGroupW : RR := fun ds po => ∃ c dr sh le, ∃ (lo most n many spare : Nat), ∃ d, ds = [frmD c dr sh lo most le n many spare, d] ∧ FO many spare ∧ FmOk lo most n many spare ∧ fW lo most n many spare ≤ 100 ∧ ThOk (many + spare) d ∧ po = fun r => ∃ v, r = .bool v ∧ Says (many + spare) (fW lo most n many spare) many d v
def rRestW : RR := fun ds po => ∃ c dr sh le, ∃ (lo most n many spare W : Nat), ∃ w xs, ds = [frmD c dr sh lo most le n many spare, dicI (knW w xs)] ∧ FO many spare ∧ WsOk W w ∧ (W = fW lo most n many spare ∧ FmOk lo most n many spare) ∧ LotOk xs (many + spare) ∧ po = fun r => r = if xs.length < many then .none else .tuple (wordsP (IP W (bse many xs) w) many)
def rAgreeW : RR := fun ds po => ∃ c dr sh le, ∃ (lo most n many spare W : Nat), ∃ w xs, ds = [frmD c dr sh lo most le n many spare, dicI (knW w xs)] ∧ FO many spare ∧ WsOk W w ∧ (W = fW lo most n many spare ∧ FmOk lo most n many spare) ∧ LotOk xs (many + spare) ∧ po = fun r => r = .bool (agr W many w xs)
section
variable {K : PySem.W.Frag} {M : MM} {Q : Ent → MM → Prop} {c dr sh : PyData} {le : Int} {lo most n many spare W : Nat} {w : F97 → List F97} {xs : List F97} {d : PyData}
theorem c_spreadW (o : FO many spare) (g : WsOk W w) (q : Q (.dat (.tuple (wordsP (IP W (plF many) w) (many + spare)))) M) : Cb K (fun vs H Q => SpQ K rSpreadW vs H Q E0) [.dat (frmD c dr sh lo most le n many spare), .dat (.tuple (wordsW w many))] M Q := c_Q (.cons (.cons .nil)) _ ⟨c, dr, sh, le, lo, most, n, many, spare, W, w, rfl, o, g, rfl⟩ fun r e => by rw [e]; exact q
theorem c_isGroupW (o : FO many spare) (f : FmOk lo most n many spare) (w9 : fW lo most n many spare ≤ 100) (h : ThOk (many + spare) d) (q : ∀ v, Says (many + spare) (fW lo most n many spare) many d v → Q (.dat (.bool v)) M) : Cb K (fun vs H Q => SpQ K rIsGroupW vs H Q E0) [.dat (frmD c dr sh lo most le n many spare), .dat d] M Q := c_Q (.cons (.cons .nil)) _ ⟨c, dr, sh, le, lo, most, n, many, spare, d, rfl, o, f, w9, h, rfl⟩ fun r ⟨v, e, s⟩ => by rw [e]; exact q v s
theorem c_restW (o : FO many spare) (g : WsOk W w) (f : W = fW lo most n many spare ∧ FmOk lo most n many spare) (l : LotOk xs (many + spare)) (q : Q (.dat (if xs.length < many then .none else .tuple (wordsP (IP W (bse many xs) w) many))) M) : Cb K (fun vs H Q => SpQ K rRestW vs H Q E0) [.dat (frmD c dr sh lo most le n many spare), .dat (dicI (knW w xs))] M Q := c_Q (.cons (.cons .nil)) _ ⟨c, dr, sh, le, lo, most, n, many, spare, W, w, xs, rfl, o, g, f, l, rfl⟩ fun r e => by rw [e]; exact q
theorem c_agreeW (o : FO many spare) (g : WsOk W w) (f : W = fW lo most n many spare ∧ FmOk lo most n many spare) (l : LotOk xs (many + spare)) (q : Q (.dat (.bool (agr W many w xs))) M) : Cb K (fun vs H Q => SpQ K rAgreeW vs H Q E0) [.dat (frmD c dr sh lo most le n many spare), .dat (dicI (knW w xs))] M Q := c_Q (.cons (.cons .nil)) _ ⟨c, dr, sh, le, lo, most, n, many, spare, W, w, xs, rfl, o, g, f, l, rfl⟩ fun r e => by rw [e]; exact q
end
/-- the polynomials that serve: none if there is no place -/
def srv (W : Nat) (ats : List F97) (w : F97 → List F97) : List (List F97) := if ats = [] then [] else IP W ats w
theorem srv_len {W : Nat} {ats : List F97} {w : F97 → List F97} : (srv W ats w).length ≤ W := by
  unfold srv
  split
  · exact Nat.zero_le _
  · rw [IP_len]
    exact Nat.le_refl _
theorem srv_lens {W : Nat} {ats : List F97} {w : F97 → List F97} (hn : ats.Nodup) : ∀ p ∈ srv W ats w, p.length = ats.length := fun p hp => by
  unfold srv at hp
  split at hp
  · cases hp
  · exact IP_lens hn p hp
theorem srv_nil {W : Nat} {ats : List F97} {w : F97 → List F97} (h : ats = []) : srv W ats w = [] := if_pos h
theorem srv_at {W : Nat} {ats : List F97} {w : F97 → List F97} (hn : ats.Nodup) (o : WsOk W w) : ∀ x ∈ ats, wordD (srv W ats w) x = tF (w x) := fun x hx => by
  unfold srv
  rw [if_neg fun z => by rw [z] at hx; cases hx]
  exact IP_word hn hx (o.len x)
theorem srv_is {W : Nat} {ats : List F97} {w : F97 → List F97} (h : ats ≠ []) : srv W ats w = IP W ats w := if_neg h
theorem tF_inj {a b : List F97} (h : tF a = tF b) : a = b := by
  have e := congrArg (List.map unD) (PyData.tuple.inj h)
  have f : ∀ l : List F97, (fDs l).map unD = l := fun l => by
    unfold fDs
    rw [List.map_map]
    exact (List.map_congr_left fun x _ => unD_fD x).trans (List.map_id _)
  rwa [f, f] at e
theorem ws_inj {w v : F97 → List F97} {N : Nat} (h : wordsW w N = wordsW v N) : ∀ x ∈ plF N, w x = v x := fun x hx => tF_inj (List.map_inj_left.mp h x hx)
theorem thW_congr {ats : List F97} {w v : F97 → List F97} (h : ∀ x ∈ ats, w x = v x) (i : Nat) : thW ats w i = thW ats v i := by
  unfold thW thrP
  rw [List.map_congr_left fun x hx => by rw [h x hx]]
theorem IP_congr {W : Nat} {ats : List F97} {w v : F97 → List F97} (h : ∀ x ∈ ats, w x = v x) : IP W ats w = IP W ats v := by
  unfold IP
  exact List.map_congr_left fun i _ => thW_congr h i
theorem says_good {N W many : Nat} {w : F97 → List F97} (g : WsOk W w) (hm : many ≤ N) (hN : N ≤ 97) : Says N W many (.tuple (wordsW w N)) (decide (∀ x ∈ plF N, atP (IP W (plF many) w) x = w x)) := by
  refine ⟨fun _ => ⟨_, rfl, wordsW_len _ _, fun x hx => ?_⟩, fun v hv e => ?_⟩
  · obtain ⟨y, _, rfl⟩ := List.mem_map.mp hx
    exact wd_f (g.len y)
  · have ei := ws_inj (PyData.tuple.inj e)
    have ep : ∀ x ∈ plF many, w x = v x := fun x hx => ei x ((plF_mem hN).mpr (by have := (plF_mem (by omega)).mp hx; omega))
    rw [IP_congr ep]
    refine decide_eq_decide.mpr (forall_congr' fun x => forall_congr' fun hx => ?_)
    rw [ei x hx]
theorem says_no {N W many : Nat} {ds : List PyData} (h : ds.all (wdB W) = false) : Says N W many (.tuple ds) false := by
  refine ⟨fun z => (nomatch z), fun w hw e => ?_⟩
  obtain rfl := PyData.tuple.inj e
  have : (wordsW w N).all (wdB W) = true := by
    rw [List.all_eq_true]
    intro x hx
    obtain ⟨y, _, rfl⟩ := List.mem_map.mp hx
    exact wd_f (hw.len y)
  rw [this] at h
  cases h
theorem says_not {N W many : Nat} {d : PyData} (h : tupB (N : Int) d = false) : Says N W many d false := by
  refine ⟨fun z => (nomatch z), fun w hw e => ?_⟩
  subst e
  have : decide (((wordsW w N).length : Int) = (N : Int)) = false := h
  rw [wordsW_len] at this
  simp at this
section
variable {P : Program} {w : World} {K : PySem.W.Frag} {mg : Str → Option Value} {base : Heap}
theorem ok_spread (B : Bt mg) (D_words_from : Has P w K mg base 3 "words_from" ["known", "places", "many"] (SpQ K rWordsFrom)) (T : Stands K mg "spread" s_spread ["form", "words"]) : Has P w K mg base 4 "spread" ["form", "words"] (SpQ K rSpreadW) := by
  refine hasQ T sc_spread (fun ds po ⟨c, dr, sh, le, lo, most, n, many, spare, W, w, e, _⟩ => by rw [e]; rfl) 3 rfl fun f cdv A outer s H E g hr => ⟨_, (pss_cons (ps_setDc (i := 2) (own := [("place", 3), ("word", 4)]) (g := gTup _ 2 (gCons (gName 3) (gCons (gName 4) (gNil)))) (tt := tYes) rfl sc_spread.nd rfl rfl (swapD rfl rfl rfl (by decide +kernel)) (pi_enumT (by rfl) B.b_enumerate (pa_cons (pv 1) pa_nil)) (blkOk_by (N := N_spread) (sc := defScope s_spread) (by decide +kernel)) (fun _ _ _ _ _ => (pg_tup rfl (pgs_cons (pg_name (i := 3) sc_spread.nd rfl (by first | exact .inl rfl | exact .inr rfl)) (pgs_cons (pg_name (i := 4) sc_spread.nd rfl (by first | exact .inl rfl | exact .inr rfl)) pgs_nil)))) (fun _ _ _ _ _ => pts_nil) (fun _ _ _ _ _ => (pv 3)) (fun _ _ _ _ _ => (pv 4)))
      (pss_one (ps_ret (peD D_words_from g hr (by first | decide | exact Nat.le_refl _ | omega) (by rfl) (pa_cons (pv 2) (pa_cons (pe_callTy (list_keysR rfl) (by rfl) B.b_list (by decide +kernel) (pa_cons (pv 2) pa_nil)) (pa_cons (pe_op op_add (pe_ix ix_tup (pv 0) pe_int (fun _ _ => rfl)) (pe_ix ix_tup (pv 0) pe_int (fun _ _ => rfl))) pa_nil))))))), ?_⟩
  try dsimp only [cxOf]
  rintro ds po ⟨c, dr, sh, le, lo, most, n, many, spare, W, w, rfl, o, g, rfl⟩
  have m1 := o.m1
  have m10 := o.m10
  have s5 := o.s5
  have w9 := g.le
  repeat' walk_at "yy"
  refine ev_dc (own_pair (by decide) (by decide)) ?_
  repeat' walk_at "yy"
  refine ⟨fun k acc M => acc = knW w ((plF many).take k) ∧ M = [], ⟨rfl, rfl⟩, fun k d acc M hd e => ?_, fun acc M e => ?_⟩
  · obtain ⟨e, rfl⟩ := e
    obtain ⟨a, ha, rfl⟩ := enumD_at hd
    have hk := (List.getElem?_eq_some_iff.mp ha).1
    rw [wordsW_len] at hk
    rw [wordsW_at hk] at ha
    obtain rfl := Option.some.inj ha
    have hp := plF_at hk
    have e1 : ((0 + k : Nat) : Int) = fI (toF (k : Int)) := by rw [fI_pl (by omega)]; omega
    refine ⟨by rw [e, knW_len, List.length_take]; omega, ?_⟩
    repeat' (first | exact absurd ‹true = false› (by decide) | walk_at "yy")
    refine ⟨?_, ?_⟩
    · rw [e, knW_keys, e1]
      intro hm
      have nd2 := (plF_nodup (show many ≤ 97 by omega)).sublist (List.take_sublist (k + 1) (plF many))
      rw [← take_put hp] at nd2
      obtain ⟨y, hy, ey⟩ := List.mem_map.mp hm
      rw [fI_inj ey] at hy
      exact (List.nodup_append.mp nd2).2.2 _ hy _ (List.mem_singleton.mpr rfl) rfl
    · repeat' walk_at "yy"
      refine ⟨?_, rfl⟩
      rw [e, e1, knW_put hp]
  · obtain ⟨e, rfl⟩ := e
    rw [enumD_len, wordsW_len, List.take_of_length_le (by rw [plF_len]; exact Nat.le_refl _)] at e
    subst e
    repeat' (first | refine c_listDk ?_ | walk_at "yy")
    rw [keys_w]
    have nd := plF_nodup (show many ≤ 97 by omega)
    refine c_wordsFrom (IP W (plF many) w) (many + spare) (by omega) nd (by rw [plF_len]; omega) (by rw [IP_len]; omega) (IP_lens nd) (fun h => by have := congrArg List.length h; rw [plF_len, List.length_nil] at this; omega) (fun x hx => by rw [IP_word nd hx (g.len x)]; exact knW_get hx) (by omega) ?_
    repeat' walk_at "yy"
    rfl
theorem ok_restored (B : Bt mg) (D_words_from : Has P w K mg base 3 "words_from" ["known", "places", "many"] (SpQ K rWordsFrom)) (T : Stands K mg "restored" s_restored ["form", "known"]) : Has P w K mg base 4 "restored" ["form", "known"] (SpQ K rRestW) := by
  refine hasQ T sc_restored (fun ds po ⟨c, dr, sh, le, lo, most, n, many, spare, W, w, xs, e, _⟩ => by rw [e]; rfl) 1 rfl fun f cdv A outer s H E g hr => ⟨_, (pss_cons (ps_set (i := 2) sc_restored.nd rfl (by first | exact .inl rfl | exact .inr rfl) (pe_ix ix_tup (pv 0) pe_int (fun _ _ => rfl)))
      (pss_cons (ps_if (pt_cmpR op_lt (pe_callB call_lenDR (by rfl) B.b_len (by decide +kernel) (pa_cons (pv 1) pa_nil)) (pv 2) (nomark _)) (pss_one (ps_ret pe_non)) pss_nil)
      (pss_one (ps_ret (peD D_words_from g hr (by first | decide | exact Nat.le_refl _ | omega) (by rfl) (pa_cons (pv 1) (pa_cons (pe_slice sl_list (pe_callB (call_sortedDI rfl) (by rfl) B.b_sorted (by decide +kernel) (pa_cons (pv 1) pa_nil)) po_none (po_some (pv 2))) (pa_cons (pv 2) pa_nil)))))))), ?_⟩
  try dsimp only [cxOf]
  rintro ds po ⟨c, dr, sh, le, lo, most, n, many, spare, W, w, xs, rfl, o, g, _, l, rfl⟩
  have m1 := o.m1
  have m10 := o.m10
  have s5 := o.s5
  have w9 := g.le
  have ll := lot_len l (by omega)
  repeat' (first | refine c_lenDk ?_ | walk_at "yy")
  · have c1 := of_decide_eq_true ‹_›
    rw [knW_len] at c1
    rw [if_pos (by omega)]
  · have c1 := of_decide_eq_false ‹_›
    rw [knW_len] at c1
    rw [if_neg (by omega)]
    refine c_sortDk (by rw [knW_len]; omega) fun ys p1 p2 => ?_
    rw [knW_keys] at p1
    obtain rfl := srtF_of p1 p2
    rw [ints_f]
    repeat' walk_at "yy"
    rw [cut_toG, show (fDs (srtF xs)).take many = fDs (bse many xs) from List.map_take.symm]
    have nb := (bse_ok (many := many) l).nd
    refine c_wordsFrom (IP W (bse many xs) w) many rfl nb (by rw [bse_len]; omega) (by rw [IP_len]; omega) (IP_lens nb) (fun h => by have := congrArg List.length h; rw [bse_len, List.length_nil] at this; omega) (fun x hx => by rw [IP_word nb hx (g.len x)]; exact knW_get (bse_mem hx)) (by omega) ?_
    repeat' walk_at "yy"
    rfl
theorem ok_agree (B : Bt mg) (D_words_from : Has P w K mg base 3 "words_from" ["known", "places", "many"] (SpQ K rWordsFrom)) (T : Stands K mg "agree" s_agree ["form", "known"]) : Has P w K mg base 4 "agree" ["form", "known"] (SpQ K rAgreeW) := by
  refine hasQ T sc_agree (fun ds po ⟨c, dr, sh, le, lo, most, n, many, spare, W, w, xs, e, _⟩ => by rw [e]; rfl) 4 rfl fun f cdv A outer s H E g hr => ⟨_, (pss_cons (ps_asg (pe_slice sl_tupA (pv 0) (po_some pe_int) po_none) (pg_tup rfl (pgs_cons (pg_name (i := 2) sc_agree.nd rfl (by first | exact .inl rfl | exact .inr rfl)) (pgs_cons (pg_name (i := 3) sc_agree.nd rfl (by first | exact .inl rfl | exact .inr rfl)) pgs_nil))))
      (pss_cons (ps_set (i := 4) sc_agree.nd rfl (by first | exact .inl rfl | exact .inr rfl) (peD D_words_from g hr (by first | decide | exact Nat.le_refl _ | omega) (by rfl) (pa_cons (pv 1) (pa_cons (pe_slice sl_list (pe_callB (call_sortedDI rfl) (by rfl) B.b_sorted (by decide +kernel) (pa_cons (pv 1) pa_nil)) po_none (po_some (pv 2))) (pa_cons (pe_op op_add (pv 2) (pv 3)) pa_nil)))))
      (pss_one (ps_ret (pe_callB (cr_all rfl) (by rfl) B.b_all (by decide +kernel) (pa_cons (pe_lockD (pe_lc (own := [("place", 5)]) (g := gName 5) (tt := tYes) rfl sc_agree.nd (pi_keys (pv 1)) (blkOk_by (N := N_agree) (sc := defScope s_agree) (by decide +kernel)) (fun _ _ _ _ _ => (pg_name (i := 5) sc_agree.nd rfl (by first | exact .inl rfl | exact .inr rfl))) (fun _ _ _ _ _ => pts_nil) (fun _ _ _ _ _ => (pe_cmpR (eqK (K := K) rfl hr.units) (pe_ix (ixtK (K := K) rfl) (pv 4) (pv 5) (fun _ _ => rfl)) (pe_dget (Nat.lt_of_le_of_lt (Nat.add_le_add_left (by decide) _) (room66 hr)) (pv 1) (pv 5) (fun _ _ => rfl)) (nomark _))))) pa_nil)))))), ?_⟩
  try dsimp only [cxOf]
  rintro ds po ⟨c, dr, sh, le, lo, most, n, many, spare, W, w, xs, rfl, o, g, _, l, rfl⟩
  have m1 := o.m1
  have m10 := o.m10
  have s5 := o.s5
  have w9 := g.le
  have ll := lot_len l (by omega)
  repeat' walk_at "yy"
  refine sl_T ?_
  rw [cut2]
  repeat' walk_at "yy"
  refine c_sortDk (by rw [knW_len]; omega) fun ys p1 p2 => ?_
  rw [knW_keys] at p1
  obtain rfl := srtF_of p1 p2
  rw [ints_f]
  repeat' walk_at "yy"
  rw [cut_toG, show (fDs (srtF xs)).take many = fDs (bse many xs) from List.map_take.symm]
  have nb := (bse_ok (many := many) l).nd
  have sl := srv_len (W := W) (ats := bse many xs) (w := w)
  refine c_wordsFrom (srv W (bse many xs) w) (many + spare) (by omega) nb (by rw [bse_len]; omega) (by omega) (srv_lens nb) srv_nil (fun x hx => by rw [srv_at nb g x hx]; exact knW_get (bse_mem hx)) (by omega) ?_
  repeat' walk_at "yy"
  refine ev_lockD (i := 1) rfl ?_
  refine ev_lc (own_name (by decide)) ?_
  refine iw_keysF rfl ?_
  rw [keys_w]
  refine ⟨fun k acc M => acc = ((xs.take k).map fun x => decide (atP (IP W (bse many xs) w) x = w x)).map PyData.bool ∧ M = [], ⟨rfl, rfl⟩, fun k d acc M hd e => ?_, fun acc M e => ?_⟩
  · obtain ⟨e, rfl⟩ := e
    obtain ⟨x, hx, rfl⟩ := fDs_at hd
    have hk := (List.getElem?_eq_some_iff.mp hx).1
    have hm := List.mem_of_getElem? hx
    have bn : bse many xs ≠ [] := fun z => by
      have := congrArg List.length z
      rw [bse_len, List.length_nil] at this
      omega
    refine ⟨by rw [e, List.length_map, List.length_map, List.length_take]; omega, ?_⟩
    repeat' (first | exact absurd ‹true = false› (by decide) | refine o_ixT (wordsP_i (l.lt x hm)) ?_ | refine ev_dgetD ?_ | refine ev_fdi rfl ?_ | walk_at "yy")
    refine ⟨knW w xs, _, _, rfl, rfl, knW_get hm, ?_⟩
    refine o_eqD ((wt_word (Nat.le_trans sl w9) x).shaped (by decide)) ((wt_t (by rw [g.len]; exact w9)).shaped (by decide)) ?_
    rw [eqv_w, srv_is bn]
    refine ⟨_, rfl, ?_, rfl⟩
    rw [e, ← take_put hx, List.map_append, List.map_append]
    rfl
  · obtain ⟨e, rfl⟩ := e
    rw [fDs_len, List.take_length] at e
    subst e
    refine ⟨_, rfl, ?_⟩
    repeat' walk_at "yy"
    refine c_all ?_
    repeat' walk_at "yy"
    show PyData.bool _ = PyData.bool _
    congr 1
    unfold agr
    rw [Bool.eq_iff_iff, List.all_map, List.all_eq_true, decide_eq_true_iff]
    exact forall_congr' fun x => forall_congr' fun _ => decide_eq_true_iff
set_option maxHeartbeats 4000000 in
theorem ok_is_group (B : Bt mg) (D_width_of : Has P w K mg base 4 "width_of" ["form"] (SpQ K rWidth)) (D_spread : Has P w K mg base 4 "spread" ["form", "words"] (SpQ K rSpreadW)) (D_is_tuple_of : Has P w K mg base 1 "is_tuple_of" ["many", "thing"] (SpQ K rTupX)) (D_is_word : Has P w K mg base 3 "is_word" ["width", "thing"] (SpQ K rWordX)) (T : Stands K mg "is_group" s_is_group ["form", "thing"]) : Has P w K mg base 5 "is_group" ["form", "thing"] (SpQ K rIsGroupW) := by
  refine hasQ T sc_is_group (fun ds po ⟨c, dr, sh, le, lo, most, n, many, spare, d, e, _⟩ => by rw [e]; rfl) 4 rfl fun f cdv A outer s H E g hr => ⟨_, (pss_cons (ps_asg (pe_slice sl_tupA (pv 0) (po_some pe_int) po_none) (pg_tup rfl (pgs_cons (pg_name (i := 2) sc_is_group.nd rfl (by first | exact .inl rfl | exact .inr rfl)) (pgs_cons (pg_name (i := 3) sc_is_group.nd rfl (by first | exact .inl rfl | exact .inr rfl)) pgs_nil))))
      (pss_cons (ps_set (i := 4) sc_is_group.nd rfl (by first | exact .inl rfl | exact .inr rfl) (peD D_width_of g hr (by first | decide | exact Nat.le_refl _ | omega) (by rfl) (pa_cons (pv 0) pa_nil)))
      (pss_cons (ps_if (PW.pt (pw_or (pt_not (pt_val (peD D_is_tuple_of g hr (by first | decide | exact Nat.le_refl _ | omega) (by rfl) (pa_cons (pe_op op_add (pv 2) (pv 3)) (pa_cons (pv 1) pa_nil))))) (pw_or1 (pt_not (pt_val (pe_callB (cr_all rfl) (by rfl) B.b_all (by decide +kernel) (pa_cons (pe_lc (own := [("part", 5)]) (g := gName 5) (tt := tYes) rfl sc_is_group.nd (pi_tup (pv 1)) (blkOk_by (N := N_is_group) (sc := defScope s_is_group) (by decide +kernel)) (fun _ _ _ _ _ => (pg_name (i := 5) sc_is_group.nd rfl (by first | exact .inl rfl | exact .inr rfl))) (fun _ _ _ _ _ => pts_nil) (fun _ _ _ _ _ => (peD D_is_word g hr (by first | decide | exact Nat.le_refl _ | omega) (by rfl) (pa_cons (pv 4) (pa_cons (pv 5) pa_nil))))) pa_nil))))))) (pss_one (ps_ret pe_bl)) pss_nil)
      (pss_one (ps_ret (pe_cmpR (op_eqD hr.units) (peD D_spread g hr (by first | decide | exact Nat.le_refl _ | omega) (by rfl) (pa_cons (pv 0) (pa_cons (pe_slice sl_tupA (pv 1) po_none (po_some (pv 2))) pa_nil))) (pv 1) (nomark _))))))), ?_⟩
  try dsimp only [cxOf]
  rintro ds po ⟨c, dr, sh, le, lo, most, n, many, spare, d, rfl, o, f, w9, hd, rfl⟩
  have m1 := o.m1
  have m10 := o.m10
  have s5 := o.s5
  generalize eW : fW lo most n many spare = W at w9
  repeat' walk_at "yy"
  refine sl_T ?_
  rw [cut2]
  repeat' walk_at "yy"
  refine c_width (n := n) (many := many) (spare := spare) f ?_
  rw [eW]
  repeat' walk_at "yy"
  refine c_tupX hd.seqs ?_
  rw [show (many : Int) + (spare : Int) = ((many + spare : Nat) : Int) by omega]
  repeat' (first | exact absurd ‹true = false› (by decide) | walk_at "yy")
  all_goals first | exact says_not (by simpa using ‹(!tupB ((many + spare : Nat) : Int) d) = true›) | skip
  have t1 : tupB ((many + spare : Nat) : Int) d = true := by simpa using ‹(!tupB ((many + spare : Nat) : Int) d) = false›
  rcases hd with rfl | ⟨ys, rfl⟩ | ⟨ys, rfl, hy⟩
  · exact absurd t1 (by simp [tupB])
  · exact absurd t1 (by simp [tupB])
  have yl : ys.length = many + spare := by
    have : decide ((ys.length : Int) = ((many + spare : Nat) : Int)) = true := t1
    have := of_decide_eq_true this
    omega
  refine ev_lc (own_name (by decide)) ?_
  repeat' walk_at "yy"
  refine ⟨fun k acc M => acc = ((ys.take k).map (wdB W)).map PyData.bool ∧ M = [], ⟨rfl, rfl⟩, fun k d acc M hd e => ?_, fun acc M e => ?_⟩
  · obtain ⟨e, rfl⟩ := e
    have hk := (List.getElem?_eq_some_iff.mp hd).1
    refine ⟨by rw [e, List.length_map, List.length_map, List.length_take]; omega, ?_⟩
    repeat' (first | exact absurd ‹true = false› (by decide) | refine c_wordX W rfl (hy yl _ (List.mem_of_getElem? hd)) ?_ | walk_at "yy")
    refine ⟨?_, rfl⟩
    rw [e, ← take_put hd, List.map_append, List.map_append]
    rfl
  · obtain ⟨e, rfl⟩ := e
    rw [List.take_length] at e
    subst e
    repeat' walk_at "yy"
    refine c_all ?_
    rw [List.all_map]
    cases hall : ys.all (id ∘ wdB W) with
    | false =>
      have hall : ys.all (wdB W) = false := hall
      repeat' (first | exact absurd ‹(!false) = false› (by decide) | walk_at "yy")
      exact says_no hall
    | true =>
      have hall : ∀ d ∈ ys, wdB W d = true := List.all_eq_true.mp hall
      obtain ⟨w, g, rfl⟩ := by_place (by omega) w9 yl hall
      repeat' (first | exact absurd ‹(!true) = true› (by decide) | walk_at "yy")
      refine sl_T ?_
      rw [cut_toG, wordsW_take (by omega)]
      repeat' walk_at "yy"
      refine c_spreadW o g ?_
      repeat' walk_at "yy"
      have wt1 := wt_words (ps := IP W (plF many) w) (n := many + spare) (by rw [IP_len]; exact w9) (by omega)
      have wt2 := wt_ws (n := many + spare) g.len w9 (by omega)
      refine o_eqD (wt1.shaped (by decide)) (wt2.shaped (by decide)) ?_
      rw [eqv_ws]
      repeat' walk_at "yy"
      exact says_good g (by omega) (by omega)
end
end K53

set_option Elab.async false
set_option linter.all false
set_option maxRecDepth 100000
set_option maxHeartbeats 1000000
set_option exponentiation.threshold 20000
namespace K53
open PySem PySem.Spec PyProof.Rows L2 Yw
local macro_rules | `(tactic| walk_at "ye") => `(tactic| first
  | ((with_reducible show Ev _ (tVar _) _ _ _); first | refine ev_dat rfl ?_ | refine ev_ref rfl ?_ | refine ev_var rfl (fun z => nomatch z) ?_)
  | ((with_reducible show Ev _ (tC _) _ _ _); first | with_reducible refine ev_int ?_ | with_reducible refine ev_bl ?_ | with_reducible refine ev_non ?_ | with_reducible refine ev_str ?_ | with_reducible refine ev_ty ?_)
  | with_reducible refine ev_op ?_
  | with_reducible refine ev_un ?_
  | with_reducible refine ev_go ?_
  | with_reducible refine ev_cb ?_
  | with_reducible refine ev_tupD ?_
  | with_reducible refine ev_lstD ?_
  | with_reducible refine ev_chain ?_
  | with_reducible refine ev_if ?_
  | with_reducible refine ev_andV ?_
  | with_reducible refine ev_orV ?_
  | with_reducible refine ev_notV ?_
  | with_reducible refine ev_sl ?_
  | with_reducible refine ev_bm ?_)
local macro_rules | `(tactic| walk_at "ya") => `(tactic| first
  | with_reducible refine ea_cons ?_
  | with_reducible refine ea_nil ?_
  | with_reducible refine eo_none ?_
  | with_reducible refine eo_some ?_
  | with_reducible refine et_test ?_
  | with_reducible refine et_B ?_
  | with_reducible refine et_and ?_
  | with_reducible refine et_or ?_
  | with_reducible refine et_not ?_
  | with_reducible refine et_yes ?_
  | with_reducible refine tg_name ?_
  | with_reducible refine tgs_nil ?_
  | with_reducible refine tgs_cons ?_
  | ((with_reducible show Tg _ (gTup _ _ _) _ _ _ _); refine tg_tup rfl ?_)
  | with_reducible refine tg_sub ?_)
local macro_rules | `(tactic| walk_at "ys") => `(tactic| first
  | with_reducible refine sj_seq ?_
  | with_reducible refine sj_next ?_
  | with_reducible refine sj_newD ?_
  | with_reducible refine sj_set ?_
  | with_reducible refine sj_par ?_
  | with_reducible refine sj_ret ?_
  | with_reducible refine sj_drop ?_
  | with_reducible refine sj_if ?_
  | with_reducible refine sj_asg ?_
  | with_reducible refine sj_augS ?_
  | with_reducible refine iw_seq ?_
  | with_reducible refine iw_zip ?_
  | with_reducible refine iw_list ?_
  | with_reducible refine iw_tup ?_
  | with_reducible refine iw_r1 ?_
  | with_reducible refine iw_r2 ?_
  | with_reducible refine iw_enumT ?_)
local macro_rules | `(tactic| walk_at "yo") => `(tactic| first
  | with_reducible refine o_int ?_
  | with_reducible refine o_bool ?_
  | with_reducible refine o_mul (by first | exact mulR ⟨by decide, by decide⟩ | exact mulL ⟨by decide, by decide⟩) ?_
  | with_reducible refine o_mul ?_ ?_
  | with_reducible refine o_mod (by decide) ?_
  | with_reducible refine o_mod ?_ ?_
  | with_reducible refine o_div (by decide) (by decide +kernel) ?_
  | with_reducible refine o_cat ?_ ?_
  | with_reducible refine o_catT ?_ ?_
  | ((with_reducible show Op2 _ (rIxL _) (Ent.ref _) _ _ _); refine o_ixM (List.Mem.head _) rfl ?_)
  | with_reducible refine o_eqI ?_
  | with_reducible refine o_neI ?_
  | with_reducible refine o_eqS ?_
  | with_reducible refine o_neS ?_
  | with_reducible refine o_neg ?_
  | ((with_reducible show Op2 _ (rIxT _) _ _ _ _); refine o_ixT rfl ?_)
  | ((with_reducible show Op2 _ (rIxL _) (Ent.dat _) _ _ _); refine o_ixL rfl ?_)
  | ((with_reducible show Op2 _ (rI CPow _) _ _ _ _); refine o_pow ⟨by decide, by decide, by decide⟩ rfl ?_)
  | with_reducible refine c_abs ?_
  | with_reducible refine c_int ?_
  | with_reducible refine c_min2 ?_
  | with_reducible refine c_max2 ?_
  | with_reducible refine c_gcd ?_
  | with_reducible refine sl_L ?_
  | with_reducible refine c_len (.lst _) ?_
  | with_reducible refine c_len (.tup _) ?_)
local macro_rules | `(tactic| walk_at "yx") => `(tactic| first
  | with_reducible refine ⟨_, rfl, ?_⟩
  | with_reducible refine ⟨_, _, rfl, ?_⟩
  | with_reducible refine ⟨fun _ => ?_, fun _ => ?_⟩
  | ((with_reducible show ∃ _ _ _ _ _ _, _ = _ ∧ _ = _ ∧ _ = _ ∧ _ = _ ∧ _); refine ⟨[], _, _, _, _, _, rfl, rfl, rfl, rfl, ?_⟩)
  | ((with_reducible show ∃ _ _ _ _ _, _ = _ ∧ _ = _ ∧ _ ∧ _ ∧ _ ∧ _ = _ ∧ _ = _ ∧ _); refine ⟨_, _, _, _, _, rfl, rfl, List.Mem.head _, by decide, by decide, rfl, rfl, ?_⟩)
  | ((with_reducible show ∃ _ _ _, _ = _ ∧ _ = _ ∧ _); refine ⟨[], _, _, rfl, rfl, ?_⟩)
  | ((with_reducible show ∃ _, Ds _ _ ∧ _ ∧ _); refine ⟨_, (by repeat (first | exact Ds.nil | apply Ds.cons)), (by simp), ?_⟩))
local macro_rules | `(tactic| walk_at "yy") => `(tactic| first | walk_at "ye" | walk_at "ya" | walk_at "ys" | walk_at "yo" | walk_at "yx" | walk_at "yc")

/-! ### rules within comprehensions -/
theorem tplK {X : Cx} {K : PySem.W.Frag} (h : X.K = K) : CallR X (.type "tuple") (fun us H R => ∃ a zs, us = [.ref a] ∧ ((SqL K H a zs ∧ ∀ b, H b = none → R (.ref b) (upd H b (.tup zs))) ∨ (SqT K H a zs ∧ R (.ref a) H))) := by
  subst h
  exact call_tuple_of
section
variable {P : Program} {w : World} {K : PySem.W.Frag} {mg : Str → Option Value} {base : Heap}

end
end K53

set_option Elab.async false
set_option linter.all false
set_option maxRecDepth 100000
set_option maxHeartbeats 1000000
set_option exponentiation.threshold 20000
namespace K53
open PySem PySem.Spec PyProof.Rows L2 Yw
local macro_rules | `(tactic| walk_at "ye") => `(tactic| first
  | ((with_reducible show Ev _ (tVar _) _ _ _); first | refine ev_dat rfl ?_ | refine ev_ref rfl ?_ | refine ev_var rfl (fun z => nomatch z) ?_)
  | ((with_reducible show Ev _ (tC _) _ _ _); first | with_reducible refine ev_int ?_ | with_reducible refine ev_bl ?_ | with_reducible refine ev_non ?_ | with_reducible refine ev_str ?_ | with_reducible refine ev_ty ?_)
  | with_reducible refine ev_op ?_
  | with_reducible refine ev_un ?_
  | with_reducible refine ev_go ?_
  | with_reducible refine ev_cb ?_
  | with_reducible refine ev_tupD ?_
  | with_reducible refine ev_lstD ?_
  | with_reducible refine ev_chain ?_
  | with_reducible refine ev_if ?_
  | with_reducible refine ev_andV ?_
  | with_reducible refine ev_orV ?_
  | with_reducible refine ev_notV ?_
  | with_reducible refine ev_sl ?_
  | with_reducible refine ev_bm ?_)
local macro_rules | `(tactic| walk_at "ya") => `(tactic| first
  | with_reducible refine ea_cons ?_
  | with_reducible refine ea_nil ?_
  | with_reducible refine eo_none ?_
  | with_reducible refine eo_some ?_
  | with_reducible refine et_test ?_
  | with_reducible refine et_B ?_
  | with_reducible refine et_and ?_
  | with_reducible refine et_or ?_
  | with_reducible refine et_not ?_
  | with_reducible refine et_yes ?_
  | with_reducible refine tg_name ?_
  | with_reducible refine tgs_nil ?_
  | with_reducible refine tgs_cons ?_
  | ((with_reducible show Tg _ (gTup _ _ _) _ _ _ _); refine tg_tup rfl ?_)
  | with_reducible refine tg_sub ?_)
local macro_rules | `(tactic| walk_at "ys") => `(tactic| first
  | with_reducible refine sj_seq ?_
  | with_reducible refine sj_next ?_
  | with_reducible refine sj_newD ?_
  | with_reducible refine sj_set ?_
  | with_reducible refine sj_par ?_
  | with_reducible refine sj_ret ?_
  | with_reducible refine sj_drop ?_
  | with_reducible refine sj_if ?_
  | with_reducible refine sj_asg ?_
  | with_reducible refine sj_augS ?_
  | with_reducible refine iw_seq ?_
  | with_reducible refine iw_zip ?_
  | with_reducible refine iw_list ?_
  | with_reducible refine iw_tup ?_
  | with_reducible refine iw_r1 ?_
  | with_reducible refine iw_r2 ?_
  | with_reducible refine iw_enumT ?_)
local macro_rules | `(tactic| walk_at "yo") => `(tactic| first
  | with_reducible refine o_int ?_
  | with_reducible refine o_bool ?_
  | with_reducible refine o_mul (by first | exact mulR ⟨by decide, by decide⟩ | exact mulL ⟨by decide, by decide⟩) ?_
  | with_reducible refine o_mul ?_ ?_
  | with_reducible refine o_mod (by decide) ?_
  | with_reducible refine o_mod ?_ ?_
  | with_reducible refine o_div (by decide) (by decide +kernel) ?_
  | with_reducible refine o_cat ?_ ?_
  | with_reducible refine o_catT ?_ ?_
  | ((with_reducible show Op2 _ (rIxL _) (Ent.ref _) _ _ _); refine o_ixM (List.Mem.head _) rfl ?_)
  | with_reducible refine o_eqI ?_
  | with_reducible refine o_neI ?_
  | with_reducible refine o_eqS ?_
  | with_reducible refine o_neS ?_
  | with_reducible refine o_neg ?_
  | ((with_reducible show Op2 _ (rIxT _) _ _ _ _); refine o_ixT rfl ?_)
  | ((with_reducible show Op2 _ (rIxL _) (Ent.dat _) _ _ _); refine o_ixL rfl ?_)
  | ((with_reducible show Op2 _ (rI CPow _) _ _ _ _); refine o_pow ⟨by decide, by decide, by decide⟩ rfl ?_)
  | with_reducible refine c_abs ?_
  | with_reducible refine c_int ?_
  | with_reducible refine c_min2 ?_
  | with_reducible refine c_max2 ?_
  | with_reducible refine c_gcd ?_
  | with_reducible refine sl_L ?_
  | with_reducible refine c_len (.lst _) ?_
  | with_reducible refine c_len (.tup _) ?_)
local macro_rules | `(tactic| walk_at "yx") => `(tactic| first
  | with_reducible refine ⟨_, rfl, ?_⟩
  | with_reducible refine ⟨_, _, rfl, ?_⟩
  | with_reducible refine ⟨fun _ => ?_, fun _ => ?_⟩
  | ((with_reducible show ∃ _ _ _ _ _ _, _ = _ ∧ _ = _ ∧ _ = _ ∧ _ = _ ∧ _); refine ⟨[], _, _, _, _, _, rfl, rfl, rfl, rfl, ?_⟩)
  | ((with_reducible show ∃ _ _ _ _ _, _ = _ ∧ _ = _ ∧ _ ∧ _ ∧ _ ∧ _ = _ ∧ _ = _ ∧ _); refine ⟨_, _, _, _, _, rfl, rfl, List.Mem.head _, by decide, by decide, rfl, rfl, ?_⟩)
  | ((with_reducible show ∃ _ _ _, _ = _ ∧ _ = _ ∧ _); refine ⟨[], _, _, rfl, rfl, ?_⟩)
  | ((with_reducible show ∃ _, Ds _ _ ∧ _ ∧ _); refine ⟨_, (by repeat (first | exact Ds.nil | apply Ds.cons)), (by simp), ?_⟩))
local macro_rules | `(tactic| walk_at "yy") => `(tactic| first | walk_at "ye" | walk_at "ya" | walk_at "ys" | walk_at "yo" | walk_at "yx" | walk_at "yc")

local macro_rules | `(tactic| walk_at "yc") => `(tactic| first | with_reducible refine c_take ?_ ?_ ?_ | with_reducible refine isi_tt ?_)
/-! ### the law's groups, and what goes through points -/
def rowF (q : List F97) (n : Nat) : PyData := .list (fDs ((plF n).map (Yw.ev q)))
def rGroup : RR := fun ds po => ∃ c dr sh le, ∃ (lo most n many spare : Nat), ds = [frmD c dr sh lo most le n many spare] ∧ FO many spare ∧ FmOk lo most n many spare ∧ fW lo most n many spare ≤ 100 ∧ po = fun r => ∃ ps : List (List F97), (∀ q ∈ ps, q.length = many) ∧ ps.length = fW lo most n many spare ∧ r = .tuple (wordsP ps (many + spare))
def ptF (f : F97 → F97) (x : F97) : PyData := .tuple [fD x, fD (f x)]
def rAt : RR := fun ds po => ∃ (ats : List F97) (f : F97 → F97) (x : F97), ds = [.list (ats.map (ptF f)), fD x] ∧ ats.Nodup ∧ ats.length ≤ 20 ∧ po = fun r => r = fD (Yw.ev (thrP ats f) x)
section
variable {K : PySem.W.Frag} {M : MM} {Q : Ent → MM → Prop} {c dr sh : PyData} {le : Int} {lo most n many spare : Nat}
theorem c_group {b : Addr} {C : Bag} {Mr : MM} (o : FO many spare) (f : FmOk lo most n many spare) (w : fW lo most n many spare ≤ 100) (p : ∀ (ps : List (List F97)) (C1 : Bag), (∀ q ∈ ps, q.length = many) → ps.length = fW lo most n many spare → Q (.dat (.tuple (wordsP ps (many + spare)))) ((b, .lst (Bag.ds C1)) :: Mr)) :
    Cb K (fun vs H Q => SpD K rGroup vs H Q E0) [.ref b, .dat (frmD c dr sh lo most le n many spare)] ((b, .lst (Bag.ds C)) :: Mr) Q :=
  c_D (.cons .nil) _ ⟨c, dr, sh, le, lo, most, n, many, spare, rfl, o, f, w, rfl⟩ fun d C1 ⟨ps, h1, h2, e⟩ => by rw [e]; exact p ps C1 h1 h2
theorem c_at {ats : List F97} {f : F97 → F97} {x : F97} (nd : ats.Nodup) (h : ats.length ≤ 20) (q : Q (.dat (fD (Yw.ev (thrP ats f) x))) M) : Cb K (fun vs H Q => SpQ K rAt vs H Q E0) [.dat (.list (ats.map (ptF f))), .dat (fD x)] M Q := c_Q (.cons (.cons .nil)) _ ⟨ats, f, x, rfl, nd, h, rfl⟩ fun r e => by rw [e]; exact q
end
theorem rowF_i {q : List F97} {n : Nat} {x : F97} (h : fI x < (n : Int)) : atI (fDs ((plF n).map (Yw.ev q))) (fI x) = some (fD (Yw.ev q x)) := by
  have := fI_lt x
  have e : fI x = ((fI x).toNat : Nat) := by omega
  rw [e]
  refine atI_nat ?_
  unfold fDs
  rw [List.getElem?_map, List.getElem?_map, plF_at (by omega), ← e, toF_fI]
  rfl
theorem mulsub (a x y : F97) : fI a * (fI x - fI y) % 97 = fI (a * (x - y)) := by
  rw [Int.mul_emod, fI_sub, Int.emod_eq_of_lt (fI_lt a).1 (fI_lt a).2, fI_mul]
theorem muladd (a x y : F97) : (fI a + fI x * fI y) % 97 = fI (a + x * y) := by
  rw [Int.add_emod, fI_mul, Int.emod_eq_of_lt (fI_lt a).1 (fI_lt a).2, fI_add]
/-- the sum as far as it goes -/
def sumA (ats : List F97) (f : F97 → F97) (x : F97) (l : List F97) : F97 := l.foldl (fun s o => s + f o * abv ats x o * finv (abv ats o o)) 0
theorem sumA_all (ats : List F97) (f : F97 → F97) (x : F97) : ∀ (l : List F97) (s : F97), l.foldl (fun s o => s + f o * abv ats x o * finv (abv ats o o)) s = (List.zipWith (· * ·) (l.map fun o => abv ats x o * finv (abv ats o o)) (l.map f)).foldl (· + ·) s
  | [], s => rfl
  | o :: l, s => by
    rw [List.foldl_cons, sumA_all ats f x l, List.map_cons, List.map_cons, List.zipWith_cons_cons, List.foldl_cons]
    congr 1
    grind
theorem sumA_is {ats : List F97} (hn : ats.Nodup) (f : F97 → F97) (x : F97) : sumA ats f x ats = Yw.ev (thrP ats f) x := by
  unfold sumA thrP
  rw [sumA_all, lag_ev hn x ats (ats.map f) 0 fun _ h => h]
  grind
theorem abv_more {ats : List F97} {j : Nat} {a x o : F97} (h : ats[j]? = some a) : abv (ats.take (j + 1)) x o = if a ≠ o then abv (ats.take j) x o * (x - a) else abv (ats.take j) x o := by
  unfold abv
  rw [← take_put h, List.foldl_append]
  rfl
theorem abv_nz (ats : List F97) (o : F97) : abv ats o o ≠ 0 := by
  rw [abv_ev]
  exact prod_nz o o ats fun a _ c => c
/-- the one that makes one of it -/
theorem one_inv {b : F97} (hb : b ≠ 0) : ∀ (l : List F97), finv b ∈ l → ∃ r, (l.filter fun h => decide (b * h = 1)) = finv b :: r := fun l hl => by
  have mem : finv b ∈ l.filter fun h => decide (b * h = 1) := List.mem_filter.mpr ⟨hl, decide_eq_true (mul_inv hb)⟩
  cases e : l.filter fun h => decide (b * h = 1) with
  | nil => rw [e] at mem; cases mem
  | cons y r =>
    have hy : y ∈ l.filter fun h => decide (b * h = 1) := by rw [e]; exact List.mem_cons_self
    have h1 : b * y = 1 := of_decide_eq_true (List.mem_filter.mp hy).2
    have h2 := mul_inv hb
    have h3 : y - finv b = 0 := no_zero (x := b) (by grind) hb
    have : y = finv b := by grind
    exact ⟨r, by rw [this]⟩
section
variable {P : Program} {w : World} {K : PySem.W.Frag} {mg : Str → Option Value} {base : Heap}
set_option maxHeartbeats 4000000 in
theorem ok_l_group (B : Bt mg) (D_l_width : Has P w K mg base 2 "_law_width" ["form"] (SpQ K rWidth)) (D_l_some : Has P w K mg base 2 "_law_some" ["bag", "things"] (SpD K rSome)) (D_l_value : Has P w K mg base 1 "_law_value" ["polynomial", "at"] (SpQ K rValueOf)) (D_l_take : Has P w K mg base 1 "_law_take" ["bag", "many"] (SpD K rTake)) (T : Stands K mg "_law_group" s_l_group ["bag", "form"]) : Has P w K mg base 3 "_law_group" ["bag", "form"] (SpD K rGroup) := by
  refine hasD T sc_l_group (fun ds po ⟨c, dr, sh, le, lo, most, n, many, spare, e, _⟩ => by rw [e]; rfl) 6 rfl fun f cdv A outer s H E g hr => ⟨_, (pss_cons (ps_set (i := 2) sc_l_group.nd rfl (by first | exact .inl rfl | exact .inr rfl) (pe_lst pa_nil))
      (pss_cons (ps_for PassesOwn.never rfl (pi_range1 (by rfl) B.b_range (pa_cons (peD D_l_width g hr (by first | decide | exact Nat.le_refl _ | omega) (by rfl) (pa_cons (pv 1) pa_nil)) pa_nil)) (pg_name (i := 3) sc_l_group.nd rfl (by first | exact .inl rfl | exact .inr rfl)) (pss_cons (ps_set (i := 4) sc_l_group.nd rfl (by first | exact .inl rfl | exact .inr rfl) (pe_lc (own := [("turn", 5)]) (g := gName 5) (tt := tYes) rfl sc_l_group.nd (pi_range1 (by rfl) B.b_range (pa_cons (pe_ix ix_tup (pv 1) pe_int (fun _ _ => rfl)) pa_nil)) (blkOk_by (N := N_l_group) (sc := defScope s_l_group) (by decide +kernel)) (fun _ _ _ _ _ => (pg_name (i := 5) sc_l_group.nd rfl (by first | exact .inl rfl | exact .inr rfl))) (fun _ _ _ _ _ => pts_nil) (fun _ _ _ _ _ => (peD D_l_some g hr (by first | decide | exact Nat.le_refl _ | omega) (by rfl) (pa_cons (pv 0) (pa_cons (pe_lst (pa_cons (peD D_l_take g hr (by first | decide | exact Nat.le_refl _ | omega) (by rfl) (pa_cons (pv 0) (pa_cons pe_int pa_nil))) (pa_cons pe_int (pa_cons pe_int pa_nil)))) pa_nil))))))
      (pss_one (ps_expr (pe_bm PySem.F.plainAttrs_list PySem.F.slot_list_append PySem.F.type_list_append mt_append (pv 2) (pa_cons (pe_lc (own := [("place", 6)]) (g := gName 6) (tt := tYes) rfl sc_l_group.nd (pi_range1 (by rfl) B.b_range (pa_cons (pe_op op_add (pe_ix ix_tup (pv 1) pe_int (fun _ _ => rfl)) (pe_ix ix_tup (pv 1) pe_int (fun _ _ => rfl))) pa_nil)) (blkOk_by (N := N_l_group) (sc := defScope s_l_group) (by decide +kernel)) (fun _ _ _ _ _ => (pg_name (i := 6) sc_l_group.nd rfl (by first | exact .inl rfl | exact .inr rfl))) (fun _ _ _ _ _ => pts_nil) (fun _ _ _ _ _ => (peD D_l_value g hr (by first | decide | exact Nat.le_refl _ | omega) (by rfl) (pa_cons (pe_callTy (tplK (K := K) rfl) (by rfl) B.b_tuple (by decide +kernel) (pa_cons (pv 4) pa_nil)) (pa_cons (pv 6) pa_nil))))) pa_nil))))))
      (pss_one (ps_ret (pe_callTy call_tuple_of (by rfl) B.b_tuple (by decide +kernel) (pa_cons (pe_lc (own := [("place", 6)]) (g := gName 6) (tt := tYes) rfl sc_l_group.nd (pi_range1 (by rfl) B.b_range (pa_cons (pe_op op_add (pe_ix ix_tup (pv 1) pe_int (fun _ _ => rfl)) (pe_ix ix_tup (pv 1) pe_int (fun _ _ => rfl))) pa_nil)) (blkOk_by (N := N_l_group) (sc := defScope s_l_group) (by decide +kernel)) (fun _ _ _ _ _ => (pg_name (i := 6) sc_l_group.nd rfl (by first | exact .inl rfl | exact .inr rfl))) (fun _ _ _ _ _ => pts_nil) (fun _ _ _ _ _ => (pe_callTy (tplK (K := K) rfl) (by rfl) B.b_tuple (by decide +kernel) (pa_cons (pe_lc (own := [("row", 7)]) (g := gName 7) (tt := tYes) rfl sc_l_group.nd (pilK (K := K) rfl (pv 2)) (blkOk_by (N := N_l_group) (by first | rfl | decide +kernel)) (fun _ _ _ _ _ => (pg_name (i := 7) sc_l_group.nd rfl (by first | exact .inl rfl | exact .inr rfl))) (fun _ _ _ _ _ => pts_nil) (fun _ _ _ _ _ => (pe_ix (ixlK (K := K) rfl) (pv 7) (pv 6) (fun _ _ => rfl)))) pa_nil)))) pa_nil)))))), ?_⟩
  try dsimp only [cxOf]
  rintro b C ds po ⟨c, dr, sh, le, lo, most, n, many, spare, rfl, o, f, w100, rfl⟩
  have m1 := o.m1
  have m10 := o.m10
  have s5 := o.s5
  generalize eW : fW lo most n many spare = W at w100
  repeat' walk_at "yy"
  intro p hp
  repeat' walk_at "yy"
  refine sj_for ?_
  repeat' walk_at "yy"
  refine c_width (n := n) (many := many) (spare := spare) f ?_
  rw [eW]
  repeat' walk_at "yy"
  refine ⟨⟨by omega, by omega⟩, ?_⟩
  rw [Int.toNat_natCast]
  refine ⟨fun k es M => ∃ (ps : List (List F97)) (C1 : Bag) (e3 e4 e5 e6 e7 : Ent), es = [.ref b, .dat (frmD c dr sh lo most le n many spare), .ref p, e3, e4, e5, e6, e7] ∧ M = [(b, .lst (Bag.ds C1)), (p, .lst (ps.map fun q => rowF q (many + spare)))] ∧ ps.length = k ∧ ∀ q ∈ ps, q.length = many, ⟨[], C, _, _, _, _, _, rfl, rfl, rfl, fun q hq => (nomatch hq)⟩, ?_, ?_⟩
  · rintro k d es M hd ⟨ps, C1, e3, e4, e5, e6, e7, rfl, rfl, pl, hl⟩
    obtain ⟨kW, rfl⟩ := rgD_at hd
    repeat' walk_at "yy"
    refine ev_lc (own_name (by decide)) ?_
    repeat' walk_at "yy"
    refine ⟨⟨by omega, by omega⟩, ?_⟩
    rw [Int.toNat_natCast]
    refine ⟨fun j acc M => ∃ (q : List F97) (C2 : Bag), acc = fDs q ∧ q.length = j ∧ M = [(b, .lst (Bag.ds C2)), (p, .lst (ps.map fun q => rowF q (many + spare)))], ⟨[], C1, rfl, rfl, rfl⟩, fun j d acc M hd e => ?_, fun acc M e => ?_⟩
    · obtain ⟨q, C2, e, ql, rfl⟩ := e
      obtain ⟨jm, rfl⟩ := rgD_at hd
      refine ⟨by rw [e, fDs_len]; omega, ?_⟩
      repeat' (first | exact absurd ‹true = false› (by decide) | walk_at "yy")
      · decide
      · show _ < _
        decide
      intro t C3 t0 t1
      repeat' walk_at "yy"
      refine c_some (by simp) (by simp) fun d C4 hd => ?_
      obtain ⟨x, rfl⟩ : ∃ x : F97, d = fD x := by
        simp only [List.mem_cons, List.not_mem_nil, or_false] at hd
        rcases hd with e | e | e
        · exact ⟨toF t, by rw [e]; show _ = PyData.int (fI (toF t)); rw [fI_toF t0 t1]⟩
        · exact ⟨0, e⟩
        · exact ⟨96, e⟩
      refine ⟨_, rfl, q ++ [x], C4, ?_, by rw [List.length_append, ql]; rfl, rfl⟩
      rw [e]
      unfold fDs
      rw [List.map_append]
      rfl
    · obtain ⟨q, C2, rfl, ql, rfl⟩ := e
      rw [rgD_len] at ql
      repeat' walk_at "yy"
      refine ⟨ty_ref (List.Mem.tail _ (List.Mem.head _)), ?_⟩
      repeat' walk_at "yy"
      refine ev_lc (own_name (by decide)) ?_
      repeat' walk_at "yy"
      refine ⟨⟨by omega, by omega⟩, ?_⟩
      rw [rgN (by omega)]
      refine ⟨fun j acc M => acc = fDs (((plF (many + spare)).map (Yw.ev q)).take j) ∧ M = [(b, .lst (Bag.ds C2)), (p, .lst (ps.map fun q => rowF q (many + spare)))], ⟨rfl, rfl⟩, fun j d acc M hd e => ?_, fun acc M e => ?_⟩
      · obtain ⟨e, rfl⟩ := e
        obtain ⟨x, hx, rfl⟩ := fDs_at hd
        refine ⟨by rw [e, fDs_len, List.length_take, List.length_map, plF_len]; omega, ?_⟩
        repeat' (first | exact absurd ‹true = false› (by decide) | refine c_tuple (.lst _) ?_ | refine c_valueOf (by omega) ?_ | walk_at "yy")
        refine ⟨?_, rfl⟩
        rw [e]
        exact fDs_put (by rw [List.getElem?_map, hx]; rfl)
      · obtain ⟨e, rfl⟩ := e
        rw [fDs_len, List.take_of_length_le (by rw [List.length_map]; exact Nat.le_refl _)] at e
        subst e
        repeat' walk_at "yy"
        refine m_append (Ma := [(b, .lst (Bag.ds C2))]) (Mb := []) rfl (by rw [List.length_map]; omega) ?_
        refine ⟨ps ++ [q], C2, _, _, _, _, _, rfl, by rw [List.map_append]; rfl, by rw [List.length_append, pl]; rfl, fun r hr => ?_⟩
        rcases List.mem_append.mp hr with h | h
        · exact hl r h
        · rw [List.mem_singleton.mp h]
          exact ql
  · rintro es M ⟨ps, C1, e3, e4, e5, e6, e7, rfl, rfl, pl, hl⟩
    rw [rgD_len] at pl
    refine sj_fast [(b, .lst (Bag.ds C1))] [] rfl hp (.keep (.keep (.hit (.keep (.keep (.keep (.keep (.keep .nil)))))))) ?_
    repeat' walk_at "yy"
    refine ev_lc (own_name (by decide)) ?_
    repeat' walk_at "yy"
    refine ⟨⟨by omega, by omega⟩, ?_⟩
    rw [rgN (by omega)]
    refine ⟨fun j acc M => acc = (wordsP ps (many + spare)).take j ∧ M = [(b, .lst (Bag.ds C1))], ⟨rfl, rfl⟩, fun j d acc M hd e => ?_, fun acc M e => ?_⟩
    · obtain ⟨e, rfl⟩ := e
      obtain ⟨x, hx, rfl⟩ := fDs_at hd
      have jl := (List.getElem?_eq_some_iff.mp hx).1
      rw [plF_len] at jl
      rw [plF_at jl] at hx
      obtain rfl := Option.some.inj hx
      have xl : fI (toF (j : Int)) < ((many + spare : Nat) : Int) := by rw [fI_pl (by omega)]; omega
      refine ⟨by rw [e, List.length_take, wordsP_len]; omega, ?_⟩
      repeat' (first | exact absurd ‹true = false› (by decide) | walk_at "yy")
      refine ev_lc (own_name (by decide)) ?_
      repeat' walk_at "yy"
      refine ⟨fun i ac M => ac = fDs ((atP ps (toF (j : Int))).take i) ∧ M = [(b, .lst (Bag.ds C1))], ⟨rfl, rfl⟩, fun i d ac M hd e2 => ?_, fun ac M e2 => ?_⟩
      · obtain ⟨e2, rfl⟩ := e2
        rw [List.getElem?_map] at hd
        obtain ⟨q, hq, rfl⟩ := Option.map_eq_some_iff.mp hd
        have il := (List.getElem?_eq_some_iff.mp hq).1
        refine ⟨by rw [e2, fDs_len, List.length_take]; omega, ?_⟩
        unfold rowF
        repeat' (first | exact absurd ‹true = false› (by decide) | refine o_ixL (rowF_i xl) ?_ | walk_at "yy")
        refine ⟨?_, rfl⟩
        rw [e2]
        refine fDs_put ?_
        unfold atP
        rw [List.getElem?_map, hq]
        rfl
      · obtain ⟨e2, rfl⟩ := e2
        rw [List.length_map, List.take_of_length_le (by rw [atP_len]; exact Nat.le_refl _)] at e2
        subst e2
        repeat' walk_at "yy"
        refine c_tuple (.lst _) ?_
        repeat' walk_at "yy"
        refine ⟨?_, rfl⟩
        rw [e]
        exact take_put (wordsP_at jl)
    · obtain ⟨e, rfl⟩ := e
      rw [fDs_len, plF_len, List.take_of_length_le (by rw [wordsP_len]; exact Nat.le_refl _)] at e
      subst e
      repeat' walk_at "yy"
      refine c_tuple (.lst _) ?_
      repeat' walk_at "yy"
      exact ⟨⟨C1, [], rfl⟩, ps, hl, pl, rfl⟩
set_option maxHeartbeats 4000000 in
theorem ok_l_at (B : Bt mg)  (T : Stands K mg "_law_at" s_l_at ["points", "at"]) : Has P w K mg base 1 "_law_at" ["points", "at"] (SpQ K rAt) := by
  refine hasQ T sc_l_at (fun ds po ⟨ats, f, x, e, _⟩ => by rw [e]; rfl) 9 rfl fun f cdv A outer s H E g hr => ⟨_, (pss_cons (ps_set (i := 2) sc_l_at.nd rfl (by first | exact .inl rfl | exact .inr rfl) pe_int)
      (pss_cons (ps_for PassesOwn.never rfl (pi_list (pv 0)) (pg_tup rfl (pgs_cons (pg_name (i := 3) sc_l_at.nd rfl (by first | exact .inl rfl | exact .inr rfl)) (pgs_cons (pg_name (i := 4) sc_l_at.nd rfl (by first | exact .inl rfl | exact .inr rfl)) pgs_nil))) (pss_cons (ps_asg (pe_tup (pa_cons (pv 4) (pa_cons pe_int pa_nil))) (pg_tup rfl (pgs_cons (pg_name (i := 5) sc_l_at.nd rfl (by first | exact .inl rfl | exact .inr rfl)) (pgs_cons (pg_name (i := 6) sc_l_at.nd rfl (by first | exact .inl rfl | exact .inr rfl)) pgs_nil))))
      (pss_cons (ps_for PassesOwn.never rfl (pi_list (pv 0)) (pg_tup rfl (pgs_cons (pg_name (i := 7) sc_l_at.nd rfl (by first | exact .inl rfl | exact .inr rfl)) (pgs_cons (pg_name (i := 8) sc_l_at.nd rfl (by first | exact .inl rfl | exact .inr rfl)) pgs_nil))) (pss_one (ps_if (pt_cmpR op_ne (pv 7) (pv 3) (nomark _)) (pss_one (ps_asg (pe_tup (pa_cons (pe_op op_mod (pe_op op_mulA (pv 5) (pe_op op_sub (pv 1) (pv 7))) pe_int) (pa_cons (pe_op op_mod (pe_op op_mulA (pv 6) (pe_op op_sub (pv 3) (pv 7))) pe_int) pa_nil))) (pg_tup rfl (pgs_cons (pg_name (i := 5) sc_l_at.nd rfl (by first | exact .inl rfl | exact .inr rfl)) (pgs_cons (pg_name (i := 6) sc_l_at.nd rfl (by first | exact .inl rfl | exact .inr rfl)) pgs_nil))))) pss_nil)))
      (pss_cons (ps_set (i := 9) sc_l_at.nd rfl (by first | exact .inl rfl | exact .inr rfl) (pe_ix ix_list (pe_lc (own := [("one", 10)]) (g := gName 10) (tt := _) rfl sc_l_at.nd (pi_range1 (by rfl) B.b_range (pa_cons pe_int pa_nil)) (blkOk_by (N := N_l_at) (sc := defScope s_l_at) (by decide +kernel)) (fun _ _ _ _ _ => (pg_name (i := 10) sc_l_at.nd rfl (by first | exact .inl rfl | exact .inr rfl))) (fun _ _ _ _ _ => pts_one (pt_cmpR op_eq (pe_op op_mod (pe_op op_mulA (pv 6) (pv 10)) pe_int) pe_int (nomark _))) (fun _ _ _ _ _ => (pv 10))) pe_int (fun _ _ => rfl)))
      (pss_one (ps_set (i := 2) sc_l_at.nd rfl (by first | exact .inl rfl | exact .inr rfl) (pe_op op_mod (pe_op op_add (pv 2) (pe_op op_mulA (pv 5) (pv 9))) pe_int)))))))
      (pss_one (ps_ret (pv 2))))), ?_⟩
  try dsimp only [cxOf]
  rintro ds po ⟨ats, f, x, rfl, nd, l20, rfl⟩
  repeat' walk_at "yy"
  refine sj_for ?_
  repeat' walk_at "yy"
  refine ⟨fun k es M => ∃ e3 e4 e5 e6 e7 e8 e9 e10, es = [.dat (.list (ats.map (ptF f))), .dat (fD x), .dat (fD (sumA ats f x (ats.take k))), e3, e4, e5, e6, e7, e8, e9, e10] ∧ M = [], ⟨_, _, _, _, _, _, _, _, rfl, rfl⟩, ?_, ?_⟩
  · rintro k d es M hd ⟨e3, e4, e5, e6, e7, e8, e9, e10, rfl, rfl⟩
    rw [List.getElem?_map] at hd
    obtain ⟨o, ho, rfl⟩ := Option.map_eq_some_iff.mp hd
    unfold ptF
    repeat' walk_at "yy"
    refine sj_for ?_
    repeat' walk_at "yy"
    refine ⟨fun j es M => ∃ e7 e8 e9 e10, es = [.dat (.list (ats.map (ptF f))), .dat (fD x), .dat (fD (sumA ats f x (ats.take k))), .dat (fD o), .dat (fD (f o)), .dat (fD (f o * abv (ats.take j) x o)), .dat (fD (abv (ats.take j) o o)), e7, e8, e9, e10] ∧ M = [], ⟨e7, e8, e9, e10, ?_, rfl⟩, ?_, ?_⟩
    · rw [show f o * abv (ats.take 0) x o = f o by show f o * 1 = f o; grind]
      rfl
    · rintro j d es M hd ⟨e7, e8, e9, e10, rfl, rfl⟩
      rw [List.getElem?_map] at hd
      obtain ⟨a, ha, rfl⟩ := Option.map_eq_some_iff.mp hd
      have p1 := abv_more (x := x) (o := o) ha
      have p2 := abv_more (x := o) (o := o) ha
      have bd : ∀ u v : F97, Bd 8 (fI u - fI v) := fun u v => by
        have := fI_lt u
        have := fI_lt v
        show _ < _
        omega
      have mo : ∀ u v w : F97, IntMulOk (fI u) (fI v - fI w) := fun u v w => (fI_bd u).ok (bd v w) (by decide) (by decide) (by decide)
      unfold ptF
      repeat' (first | refine o_mul (mo _ _ _) ?_ | walk_at "yy")
      · have c : a ≠ o := fun z => by subst z; simp_all
        rw [if_pos c] at p1 p2
        rw [mulsub, mulsub]
        refine ⟨.dat (fD a), .dat (fD (f a)), e9, e10, ?_, rfl⟩
        rw [p1, p2, show f o * (abv (ats.take j) x o * (x - a)) = f o * abv (ats.take j) x o * (x - a) by grind]
        rfl
      · have c : ¬ a ≠ o := fun z => by
          have h : (!decide (fI a = fI o)) = false := ‹_›
          simp only [Bool.not_eq_false', decide_eq_true_eq] at h
          exact z (fI_inj h)
        rw [if_neg c] at p1 p2
        exact ⟨_, _, _, _, by rw [p1, p2]; rfl, rfl⟩
    · rintro es M ⟨e7, e8, e9, e10, rfl, rfl⟩
      rw [List.length_map, List.take_length]
      have bz := abv_nz ats o
      generalize eb : abv ats o o = b at bz
      repeat' walk_at "yy"
      refine ev_lc (own_name (by decide)) ?_
      repeat' walk_at "yy"
      refine ⟨by decide, ?_⟩
      rw [show rgD 0 (Int.toNat 97) = fDs (plF 97) from rg_pl (n := 97) (by decide)]
      refine ⟨fun j acc M => acc = fDs (((plF 97).take j).filter fun h => decide (b * h = 1)) ∧ M = [], ⟨rfl, rfl⟩, fun j d acc M hd e => ?_, fun acc M e => ?_⟩
      · obtain ⟨e, rfl⟩ := e
        obtain ⟨h, hh, rfl⟩ := fDs_at hd
        have jl := (List.getElem?_eq_some_iff.mp hh).1
        rw [plF_len] at jl
        have hm : IntMulOk (fI b) (fI h) := (fI_bd b).ok (fI_bd h) (by decide) (by decide) (by decide)
        have fl : (((plF 97).take j).filter fun h => decide (b * h = 1)).length ≤ 97 := Nat.le_trans (List.length_filter_le _ _) (by rw [List.length_take, plF_len]; omega)
        have e1 : ((plF 97).take (j + 1)).filter (fun h => decide (b * h = 1)) = ((plF 97).take j).filter (fun h => decide (b * h = 1)) ++ (if b * h = 1 then [h] else []) := by
          rw [← take_put hh, List.filter_append]
          congr 1
          by_cases c : b * h = 1 <;> simp [c]
        have i1 : (fI (b * h) = 1) ↔ b * h = 1 := ⟨fun z => fI_inj z, fun z => by rw [z]; rfl⟩
        refine ⟨by rw [e, fDs_len]; omega, ?_⟩
        repeat' (first | refine o_mul hm ?_ | walk_at "yy")
        · have c : decide (fI b * fI h % 97 = 1) = true := ‹_›
          rw [fI_mul, decide_eq_true_iff, i1] at c
          refine ⟨?_, rfl⟩
          rw [e, e1, if_pos c]
          unfold fDs
          rw [List.map_append]
          rfl
        · have c : decide (fI b * fI h % 97 = 1) = false := ‹_›
          rw [fI_mul, decide_eq_false_iff_not, i1] at c
          refine ⟨?_, rfl⟩
          rw [e, e1, if_neg c, List.append_nil]
      · obtain ⟨e, rfl⟩ := e
        rw [fDs_len, List.take_length] at e
        have := fI_lt (finv b)
        obtain ⟨r, hr⟩ := one_inv bz (plF 97) ((plF_mem (by decide)).mpr (by omega))
        rw [hr] at e
        subst e
        have hm : IntMulOk (fI (f o * abv ats x o)) (fI (finv b)) := (fI_bd _).ok (fI_bd _) (by decide) (by decide) (by decide)
        have i0 : atI (fDs (finv b :: r)) (0 : Int) = some (fD (finv b)) := atI_nat (j := 0) rfl
        repeat' (first | refine o_ixL i0 ?_ | refine o_mul hm ?_ | walk_at "yy")
        rw [muladd]
        refine ⟨.dat (fD o), .dat (fD (f o)), .dat (fD (f o * abv ats x o)), .dat (fD b), e7, e8, .dat (fD (finv b)), e10, ?_, rfl⟩
        unfold sumA
        rw [← take_put ho, List.foldl_append, ← eb]
        rfl
  · rintro es M ⟨e3, e4, e5, e6, e7, e8, e9, e10, rfl, rfl⟩
    rw [List.length_map, List.take_length]
    repeat' walk_at "yy"
    show _ = _
    rw [sumA_is nd]
end
end K53

set_option Elab.async false
set_option linter.all false
set_option maxRecDepth 100000
set_option maxHeartbeats 1000000
set_option exponentiation.threshold 20000
namespace K53
open PySem PySem.Spec PyProof.Rows L2 Yw
local macro_rules | `(tactic| walk_at "ye") => `(tactic| first
  | ((with_reducible show Ev _ (tVar _) _ _ _); first | refine ev_dat rfl ?_ | refine ev_ref rfl ?_ | refine ev_var rfl (fun z => nomatch z) ?_)
  | ((with_reducible show Ev _ (tC _) _ _ _); first | with_reducible refine ev_int ?_ | with_reducible refine ev_bl ?_ | with_reducible refine ev_non ?_ | with_reducible refine ev_str ?_ | with_reducible refine ev_ty ?_)
  | with_reducible refine ev_op ?_
  | with_reducible refine ev_un ?_
  | with_reducible refine ev_go ?_
  | with_reducible refine ev_cb ?_
  | with_reducible refine ev_tupD ?_
  | with_reducible refine ev_lstD ?_
  | with_reducible refine ev_chain ?_
  | with_reducible refine ev_if ?_
  | with_reducible refine ev_andV ?_
  | with_reducible refine ev_orV ?_
  | with_reducible refine ev_notV ?_
  | with_reducible refine ev_sl ?_
  | with_reducible refine ev_bm ?_)
local macro_rules | `(tactic| walk_at "ya") => `(tactic| first
  | with_reducible refine ea_cons ?_
  | with_reducible refine ea_nil ?_
  | with_reducible refine eo_none ?_
  | with_reducible refine eo_some ?_
  | with_reducible refine et_test ?_
  | with_reducible refine et_B ?_
  | with_reducible refine et_and ?_
  | with_reducible refine et_or ?_
  | with_reducible refine et_not ?_
  | with_reducible refine et_yes ?_
  | with_reducible refine tg_name ?_
  | with_reducible refine tgs_nil ?_
  | with_reducible refine tgs_cons ?_
  | ((with_reducible show Tg _ (gTup _ _ _) _ _ _ _); refine tg_tup rfl ?_)
  | with_reducible refine tg_sub ?_)
local macro_rules | `(tactic| walk_at "ys") => `(tactic| first
  | with_reducible refine sj_seq ?_
  | with_reducible refine sj_next ?_
  | with_reducible refine sj_newD ?_
  | with_reducible refine sj_set ?_
  | with_reducible refine sj_par ?_
  | with_reducible refine sj_ret ?_
  | with_reducible refine sj_drop ?_
  | with_reducible refine sj_if ?_
  | with_reducible refine sj_asg ?_
  | with_reducible refine sj_augS ?_
  | with_reducible refine iw_seq ?_
  | with_reducible refine iw_zip ?_
  | with_reducible refine iw_list ?_
  | with_reducible refine iw_tup ?_
  | with_reducible refine iw_r1 ?_
  | with_reducible refine iw_r2 ?_
  | with_reducible refine iw_enumT ?_)
local macro_rules | `(tactic| walk_at "yo") => `(tactic| first
  | with_reducible refine o_int ?_
  | with_reducible refine o_bool ?_
  | with_reducible refine o_mul (by first | exact mulR ⟨by decide, by decide⟩ | exact mulL ⟨by decide, by decide⟩) ?_
  | with_reducible refine o_mul ?_ ?_
  | with_reducible refine o_mod (by decide) ?_
  | with_reducible refine o_mod ?_ ?_
  | with_reducible refine o_div (by decide) (by decide +kernel) ?_
  | with_reducible refine o_cat ?_ ?_
  | with_reducible refine o_catT ?_ ?_
  | ((with_reducible show Op2 _ (rIxL _) (Ent.ref _) _ _ _); refine o_ixM (List.Mem.head _) rfl ?_)
  | with_reducible refine o_eqI ?_
  | with_reducible refine o_neI ?_
  | with_reducible refine o_eqS ?_
  | with_reducible refine o_neS ?_
  | with_reducible refine o_neg ?_
  | ((with_reducible show Op2 _ (rIxT _) _ _ _ _); refine o_ixT rfl ?_)
  | ((with_reducible show Op2 _ (rIxL _) (Ent.dat _) _ _ _); refine o_ixL rfl ?_)
  | ((with_reducible show Op2 _ (rI CPow _) _ _ _ _); refine o_pow ⟨by decide, by decide, by decide⟩ rfl ?_)
  | with_reducible refine c_abs ?_
  | with_reducible refine c_int ?_
  | with_reducible refine c_min2 ?_
  | with_reducible refine c_max2 ?_
  | with_reducible refine c_gcd ?_
  | with_reducible refine sl_L ?_
  | with_reducible refine c_len (.lst _) ?_
  | with_reducible refine c_len (.tup _) ?_)
local macro_rules | `(tactic| walk_at "yx") => `(tactic| first
  | with_reducible refine ⟨_, rfl, ?_⟩
  | with_reducible refine ⟨_, _, rfl, ?_⟩
  | with_reducible refine ⟨fun _ => ?_, fun _ => ?_⟩
  | ((with_reducible show ∃ _ _ _ _ _ _, _ = _ ∧ _ = _ ∧ _ = _ ∧ _ = _ ∧ _); refine ⟨[], _, _, _, _, _, rfl, rfl, rfl, rfl, ?_⟩)
  | ((with_reducible show ∃ _ _ _ _ _, _ = _ ∧ _ = _ ∧ _ ∧ _ ∧ _ ∧ _ = _ ∧ _ = _ ∧ _); refine ⟨_, _, _, _, _, rfl, rfl, List.Mem.head _, by decide, by decide, rfl, rfl, ?_⟩)
  | ((with_reducible show ∃ _ _ _, _ = _ ∧ _ = _ ∧ _); refine ⟨[], _, _, rfl, rfl, ?_⟩)
  | ((with_reducible show ∃ _, Ds _ _ ∧ _ ∧ _); refine ⟨_, (by repeat (first | exact Ds.nil | apply Ds.cons)), (by simp), ?_⟩))
local macro_rules | `(tactic| walk_at "yy") => `(tactic| first | walk_at "ye" | walk_at "ya" | walk_at "ys" | walk_at "yo" | walk_at "yx" | walk_at "yc")

local macro_rules | `(tactic| walk_at "yc") => `(tactic| first | with_reducible refine isi_tt ?_ | with_reducible refine ev_dgetD ?_)
/-! ### do words agree, and what is due -/
def rDoAgree : RR := fun ds po => ∃ c dr sh le, ∃ (lo most n many spare W : Nat), ∃ w xs, ds = [frmD c dr sh lo most le n many spare, dicI (knW w xs)] ∧ FO many spare ∧ WsOk W w ∧ (W = fW lo most n many spare ∧ FmOk lo most n many spare) ∧ LotOk xs (many + spare) ∧ po = fun r => r = .bool (agr W many w xs)
def rDueRest : RR := fun ds po => ∃ c dr sh le, ∃ (lo most n many spare W : Nat), ∃ w xs, ds = [frmD c dr sh lo most le n many spare, dicI (knW w xs)] ∧ FO many spare ∧ WsOk W w ∧ (W = fW lo most n many spare ∧ FmOk lo most n many spare) ∧ LotOk xs (many + spare) ∧ po = fun r => r = if xs.length < many then .none else .tuple (wordsP (IP W (bse many xs) w) many)
section
variable {K : PySem.W.Frag} {M : MM} {Q : Ent → MM → Prop} {c dr sh : PyData} {le : Int} {lo most n many spare W : Nat} {w : F97 → List F97} {xs : List F97}
theorem c_doAgree (o : FO many spare) (g : WsOk W w) (f : W = fW lo most n many spare ∧ FmOk lo most n many spare) (l : LotOk xs (many + spare)) (q : Q (.dat (.bool (agr W many w xs))) M) : Cb K (fun vs H Q => SpQ K rDoAgree vs H Q E0) [.dat (frmD c dr sh lo most le n many spare), .dat (dicI (knW w xs))] M Q := c_Q (.cons (.cons .nil)) _ ⟨c, dr, sh, le, lo, most, n, many, spare, W, w, xs, rfl, o, g, f, l, rfl⟩ fun r e => by rw [e]; exact q
theorem c_dueRest (o : FO many spare) (g : WsOk W w) (f : W = fW lo most n many spare ∧ FmOk lo most n many spare) (l : LotOk xs (many + spare)) (q : Q (.dat (if xs.length < many then .none else .tuple (wordsP (IP W (bse many xs) w) many))) M) : Cb K (fun vs H Q => SpQ K rDueRest vs H Q E0) [.dat (frmD c dr sh lo most le n many spare), .dat (dicI (knW w xs))] M Q := c_Q (.cons (.cons .nil)) _ ⟨c, dr, sh, le, lo, most, n, many, spare, W, w, xs, rfl, o, g, f, l, rfl⟩ fun r e => by rw [e]; exact q
end
abbrev ptsW (w : F97 → List F97) (i : Nat) (ats : List F97) : List PyData := ats.map (ptF fun x => (w x).getD i 0)
theorem lens_f {d : List F97} : SeqAt.shaped (.list (fDs d)) = true := by
  have a := all_lay (ds := fDs d) fun x hx => by
    obtain ⟨y, _, rfl⟩ := List.mem_map.mp hx
    simp [PyData.canLay0]
  have b := all_dep (n := 0) (ds := fDs d) fun x hx => by
    obtain ⟨y, _, rfl⟩ := List.mem_map.mp hx
    simp [PyData.depth]
  unfold SeqAt.shaped
  rw [show PyData.canLay0 (.list (fDs d)) = true by simpa [PyData.canLay0] using a, Bool.true_and]
  refine decide_eq_true ?_
  simp only [PyData.depth]
  omega
theorem fDs_nil {l : List F97} : fDs l = [] ↔ l = [] := by
  unfold fDs
  exact List.map_eq_nil_iff
section
variable {P : Program} {w : World} {K : PySem.W.Frag} {mg : Str → Option Value} {base : Heap}
set_option maxHeartbeats 4000000 in
theorem ok_l_do_agree (B : Bt mg) (D_l_width : Has P w K mg base 2 "_law_width" ["form"] (SpQ K rWidth)) (D_l_at : Has P w K mg base 1 "_law_at" ["points", "at"] (SpQ K rAt)) (T : Stands K mg "_law_do_agree" s_l_do_agree ["form", "known"]) : Has P w K mg base 3 "_law_do_agree" ["form", "known"] (SpQ K rDoAgree) := by
  refine hasQ T sc_l_do_agree (fun ds po ⟨c, dr, sh, le, lo, most, n, many, spare, W, w, xs, e, _⟩ => by rw [e]; rfl) 5 rfl fun f cdv A outer s H E g hr => ⟨_, (pss_cons (ps_set (i := 2) sc_l_do_agree.nd rfl (by first | exact .inl rfl | exact .inr rfl) (pe_callB (call_sortedDI rfl) (by rfl) B.b_sorted (by decide +kernel) (pa_cons (pv 1) pa_nil)))
      (pss_cons (ps_set (i := 3) sc_l_do_agree.nd rfl (by first | exact .inl rfl | exact .inr rfl) (pe_slice sl_list (pv 2) po_none (po_some (pe_ix ix_tup (pv 0) pe_int (fun _ _ => rfl)))))
      (pss_cons (ps_for PassesOwn.never rfl (pi_range1 (by rfl) B.b_range (pa_cons (peD D_l_width g hr (by first | decide | exact Nat.le_refl _ | omega) (by rfl) (pa_cons (pv 0) pa_nil)) pa_nil)) (pg_name (i := 4) sc_l_do_agree.nd rfl (by first | exact .inl rfl | exact .inr rfl)) (pss_cons (ps_set (i := 5) sc_l_do_agree.nd rfl (by first | exact .inl rfl | exact .inr rfl) (pe_lc (own := [("place", 6)]) (g := gName 6) (tt := tYes) rfl sc_l_do_agree.nd (pi_list (pv 3)) (blkOk_by (N := N_l_do_agree) (sc := defScope s_l_do_agree) (by decide +kernel)) (fun _ _ _ _ _ => (pg_name (i := 6) sc_l_do_agree.nd rfl (by first | exact .inl rfl | exact .inr rfl))) (fun _ _ _ _ _ => pts_nil) (fun _ _ _ _ _ => (pe_tup (pa_cons (pv 6) (pa_cons (pe_ix (ixtK (K := K) rfl) (pe_dget (Nat.lt_of_le_of_lt (Nat.add_le_add_left (by decide) _) (room66 hr)) (pv 1) (pv 6) (fun _ _ => rfl)) (pv 4) (fun _ _ => rfl)) pa_nil))))))
      (pss_one (ps_if (pt_cmpR (op_neD hr.units) (pe_lc (own := [("place", 6)]) (g := gName 6) (tt := _) rfl sc_l_do_agree.nd (pi_list (pe_slice sl_list (pv 2) (po_some (pe_ix ix_tup (pv 0) pe_int (fun _ _ => rfl))) po_none)) (blkOk_by (N := N_l_do_agree) (sc := defScope s_l_do_agree) (by decide +kernel)) (fun _ _ _ _ _ => (pg_name (i := 6) sc_l_do_agree.nd rfl (by first | exact .inl rfl | exact .inr rfl))) (fun _ _ _ _ _ => pts_one (pt_cmpR op_ne (peD D_l_at g hr (by first | decide | exact Nat.le_refl _ | omega) (by rfl) (pa_cons (pv 5) (pa_cons (pv 6) pa_nil))) (pe_ix (ixtK (K := K) rfl) (pe_dget (Nat.lt_of_le_of_lt (Nat.add_le_add_left (by decide) _) (room66 hr)) (pv 1) (pv 6) (fun _ _ => rfl)) (pv 4) (fun _ _ => rfl)) (nomark _))) (fun _ _ _ _ _ => (pv 6))) (pe_lst pa_nil) (nomark _)) (pss_one (ps_ret pe_bl)) pss_nil))))
      (pss_one (ps_ret pe_bl))))), ?_⟩
  try dsimp only [cxOf]
  rintro ds po ⟨c, dr, sh, le, lo, most, n, many, spare, W, w, xs, rfl, o, g, ⟨eW, f⟩, l, rfl⟩
  have m1 := o.m1
  have m10 := o.m10
  have s5 := o.s5
  have w9 := g.le
  have ll := lot_len l (by omega)
  have nb := (bse_ok (many := many) l).nd
  have bl := bse_len many xs
  repeat' walk_at "yy"
  refine c_sortDk (by rw [knW_len]; omega) fun ys p1 p2 => ?_
  rw [knW_keys] at p1
  obtain rfl := srtF_of p1 p2
  rw [ints_f]
  repeat' walk_at "yy"
  rw [cut_toG, show (fDs (srtF xs)).take many = fDs (bse many xs) from List.map_take.symm]
  repeat' walk_at "yy"
  refine sj_for ?_
  repeat' walk_at "yy"
  refine c_width (n := n) (many := many) (spare := spare) f ?_
  rw [← eW]
  repeat' walk_at "yy"
  refine ⟨⟨by omega, by omega⟩, ?_⟩
  rw [Int.toNat_natCast]
  refine ⟨fun k es M => ∃ e4 e5 e6, es = [.dat (frmD c dr sh lo most le n many spare), .dat (dicI (knW w xs)), .dat (.list (fDs (srtF xs))), .dat (.list (fDs (bse many xs))), e4, e5, e6] ∧ M = [] ∧ ∀ i, i < k → ∀ x ∈ (srtF xs).drop many, Yw.ev (thW (bse many xs) w i) x = (w x).getD i 0, ⟨_, _, _, rfl, rfl, fun i hi => absurd hi (by omega)⟩, ?_, ?_⟩
  · rintro k d es M hd ⟨e4, e5, e6, rfl, rfl, hk⟩
    obtain ⟨kW, rfl⟩ := rgD_at hd
    rw [show (0 : Int) + (k : Int) = (k : Int) by omega]
    have wi : ∀ x, atI (fDs (w x)) (k : Int) = some (fD ((w x).getD k 0)) := fun x => word_i (by rw [g.len]; exact kW)
    repeat' walk_at "yy"
    refine ev_lc (own_name (by decide)) ?_
    repeat' walk_at "yy"
    refine ⟨fun j acc M => acc = ptsW w k ((bse many xs).take j) ∧ M = [], ⟨rfl, rfl⟩, fun j d acc M hd e => ?_, fun acc M e => ?_⟩
    · obtain ⟨e, rfl⟩ := e
      obtain ⟨x, hx, rfl⟩ := fDs_at hd
      have jl := (List.getElem?_eq_some_iff.mp hx).1
      refine ⟨by rw [e, List.length_map, List.length_take]; omega, ?_⟩
      repeat' (first | exact absurd ‹true = false› (by decide) | walk_at "yy")
      refine ⟨knW w xs, _, _, rfl, rfl, knW_get (bse_mem (List.mem_of_getElem? hx)), ?_⟩
      unfold tF
      repeat' (first | refine o_ixT (wi x) ?_ | walk_at "yy")
      refine ⟨?_, rfl⟩
      rw [e, ← take_put hx]
      unfold ptsW
      rw [List.map_append]
      rfl
    · obtain ⟨e, rfl⟩ := e
      rw [fDs_len, List.take_length] at e
      subst e
      repeat' walk_at "yy"
      refine ev_lc (own_name (by decide)) ?_
      repeat' walk_at "yy"
      rw [cut_fromG, show (fDs (srtF xs)).drop many = fDs ((srtF xs).drop many) from List.map_drop.symm]
      refine ⟨fun j acc M => acc = fDs ((((srtF xs).drop many).take j).filter fun x => !decide (Yw.ev (thW (bse many xs) w k) x = (w x).getD k 0)) ∧ M = [], ⟨rfl, rfl⟩, fun j d acc M hd e => ?_, fun acc M e => ?_⟩
      · obtain ⟨e, rfl⟩ := e
        obtain ⟨x, hx, rfl⟩ := fDs_at hd
        have jl := (List.getElem?_eq_some_iff.mp hx).1
        have sl := (srtF_perm xs).length_eq
        have fl : ((((srtF xs).drop many).take j).filter fun x => !decide (Yw.ev (thW (bse many xs) w k) x = (w x).getD k 0)).length ≤ 100 := Nat.le_trans (List.length_filter_le _ _) (by rw [List.length_take]; rw [List.length_drop] at jl; omega)
        have hm : x ∈ xs := (srtF_perm xs).mem_iff.mp (List.mem_of_mem_drop (List.mem_of_getElem? hx))
        have e1 : (((srtF xs).drop many).take (j + 1)).filter (fun x => !decide (Yw.ev (thW (bse many xs) w k) x = (w x).getD k 0)) = (((srtF xs).drop many).take j).filter (fun x => !decide (Yw.ev (thW (bse many xs) w k) x = (w x).getD k 0)) ++ (if Yw.ev (thW (bse many xs) w k) x = (w x).getD k 0 then [] else [x]) := by
          rw [← take_put hx, List.filter_append]
          congr 1
          by_cases c : Yw.ev (thW (bse many xs) w k) x = (w x).getD k 0
          · rw [if_pos c, List.filter_cons_of_neg (by show ¬ (!decide (Yw.ev (thW (bse many xs) w k) x = (w x).getD k 0)) = true; rw [decide_eq_true c]; decide)]
            rfl
          · rw [if_neg c, List.filter_cons_of_pos (by show (!decide (Yw.ev (thW (bse many xs) w k) x = (w x).getD k 0)) = true; rw [decide_eq_false c]; rfl)]
            rfl
        refine ⟨by rw [e, fDs_len]; omega, ?_⟩
        repeat' walk_at "yy"
        refine c_at nb (by omega) ?_
        repeat' walk_at "yy"
        refine ⟨knW w xs, _, _, rfl, rfl, knW_get hm, ?_⟩
        unfold tF
        repeat' (first | refine o_ixT (wi x) ?_ | walk_at "yy")
        · have c : (!decide (fI (Yw.ev (thW (bse many xs) w k) x) = fI ((w x).getD k 0))) = true := ‹_›
          have c2 : ¬ Yw.ev (thW (bse many xs) w k) x = (w x).getD k 0 := fun z => by rw [z] at c; simp at c
          refine ⟨?_, rfl⟩
          rw [e, e1, if_neg c2]
          unfold fDs
          rw [List.map_append]
          rfl
        · have c : (!decide (fI (Yw.ev (thW (bse many xs) w k) x) = fI ((w x).getD k 0))) = false := ‹_›
          have c2 : Yw.ev (thW (bse many xs) w k) x = (w x).getD k 0 := by
            simp only [Bool.not_eq_false', decide_eq_true_eq] at c
            exact fI_inj c
          refine ⟨?_, rfl⟩
          rw [e, e1, if_pos c2, List.append_nil]
      · obtain ⟨e, rfl⟩ := e
        rw [fDs_len, List.take_length] at e
        subst e
        repeat' walk_at "yy"
        refine o_neD lens_f shaped_nil ?_
        rw [eqv_nil]
        generalize eF : ((srtF xs).drop many).filter (fun x => !decide (Yw.ev (thW (bse many xs) w k) x = (w x).getD k 0)) = F
        repeat' walk_at "yy"
        · have c : (!decide (fDs F = [])) = true := ‹_›
          have c2 : F ≠ [] := fun z => by rw [z] at c; simp [fDs] at c
          show _ = PyData.bool (agr W many w xs)
          congr 1
          refine (Bool.eq_false_iff.mpr fun z => c2 ?_).symm
          rw [← eF, List.filter_eq_nil_iff]
          intro x hx
          rw [(agr_iff g l).mp z k kW x hx]
          simp
        · have c : (!decide (fDs F = [])) = false := ‹_›
          have c2 : F = [] := by
            simp only [Bool.not_eq_false', decide_eq_true_eq] at c
            exact fDs_nil.mp c
          refine ⟨_, _, _, rfl, rfl, fun i hi x hx => ?_⟩
          by_cases ei : i = k
          · subst ei
            rw [← eF, List.filter_eq_nil_iff] at c2
            have := c2 x hx
            simpa using this
          · exact hk i (by omega) x hx
  · rintro es M ⟨e4, e5, e6, rfl, rfl, hk⟩
    rw [rgD_len] at hk
    repeat' walk_at "yy"
    show _ = PyData.bool (agr W many w xs)
    rw [(agr_iff g l).mpr hk]
set_option maxHeartbeats 4000000 in
theorem ok_l_due_restored (B : Bt mg) (D_l_width : Has P w K mg base 2 "_law_width" ["form"] (SpQ K rWidth)) (D_l_at : Has P w K mg base 1 "_law_at" ["points", "at"] (SpQ K rAt)) (T : Stands K mg "_law_due_restored" s_l_due_restored ["form", "known"]) : Has P w K mg base 3 "_law_due_restored" ["form", "known"] (SpQ K rDueRest) := by
  refine hasQ T sc_l_due_restored (fun ds po ⟨c, dr, sh, le, lo, most, n, many, spare, W, w, xs, e, _⟩ => by rw [e]; rfl) 7 rfl fun f cdv A outer s H E g hr => ⟨_, (pss_cons (ps_set (i := 2) sc_l_due_restored.nd rfl (by first | exact .inl rfl | exact .inr rfl) (pe_slice sl_list (pe_callB (call_sortedDI rfl) (by rfl) B.b_sorted (by decide +kernel) (pa_cons (pv 1) pa_nil)) po_none (po_some (pe_ix ix_tup (pv 0) pe_int (fun _ _ => rfl)))))
      (pss_cons (ps_if (pt_cmpR op_lt (pe_callB call_len_seq (by rfl) B.b_len (by decide +kernel) (pa_cons (pv 2) pa_nil)) (pe_ix ix_tup (pv 0) pe_int (fun _ _ => rfl)) (nomark _)) (pss_one (ps_ret pe_non)) pss_nil)
      (pss_cons (ps_set (i := 3) sc_l_due_restored.nd rfl (by first | exact .inl rfl | exact .inr rfl) (pe_lst pa_nil))
      (pss_cons (ps_for PassesOwn.never rfl (pi_range1 (by rfl) B.b_range (pa_cons (pe_ix ix_tup (pv 0) pe_int (fun _ _ => rfl)) pa_nil)) (pg_name (i := 4) sc_l_due_restored.nd rfl (by first | exact .inl rfl | exact .inr rfl)) (pss_cons (ps_setLc (i := 5) (own := [("index", 6)]) (g := gName 6) (tt := tYes) rfl sc_l_due_restored.nd rfl rfl (sw_true rfl rfl rfl (by decide +kernel)) (pi_range1 (by rfl) B.b_range (pa_cons (peD D_l_width g hr (by first | decide | exact Nat.le_refl _ | omega) (by rfl) (pa_cons (pv 0) pa_nil)) pa_nil)) (blkOk_by (N := N_l_due_restored) (sc := defScope s_l_due_restored) (by decide +kernel)) (fun _ _ _ _ _ => (pg_name (i := 6) sc_l_due_restored.nd rfl (by first | exact .inl rfl | exact .inr rfl))) (fun _ _ _ _ _ => pts_nil) (fun _ _ _ _ _ => (pe_lc (own := [("its", 7)]) (g := gName 7) (tt := tYes) rfl sc_l_due_restored.nd (pilK (K := K) rfl (pv 2)) (blkOk_by (N := N_l_due_restored) (by first | rfl | decide +kernel)) (fun _ _ _ _ _ => (pg_name (i := 7) sc_l_due_restored.nd rfl (by first | exact .inl rfl | exact .inr rfl))) (fun _ _ _ _ _ => pts_nil) (fun _ _ _ _ _ => (pe_tup (pa_cons (pv 7) (pa_cons (pe_ix (ixtK (K := K) rfl) (pe_dget (Nat.lt_of_le_of_lt (Nat.add_le_add_left (by decide) _) (room66 hr)) (pv 1) (pv 7) (fun _ _ => rfl)) (pv 6) (fun _ _ => rfl)) pa_nil)))))))
      (pss_one (ps_expr (pe_bm PySem.F.plainAttrs_list PySem.F.slot_list_append PySem.F.type_list_append mt_append (pv 3) (pa_cons (pe_callTy call_tuple_of (by rfl) B.b_tuple (by decide +kernel) (pa_cons (pe_lc (own := [("points", 8)]) (g := gName 8) (tt := tYes) rfl sc_l_due_restored.nd (pi_list (pv 5)) (blkOk_by (N := N_l_due_restored) (sc := defScope s_l_due_restored) (by decide +kernel)) (fun _ _ _ _ _ => (pg_name (i := 8) sc_l_due_restored.nd rfl (by first | exact .inl rfl | exact .inr rfl))) (fun _ _ _ _ _ => pts_nil) (fun _ _ _ _ _ => (peD D_l_at g hr (by first | decide | exact Nat.le_refl _ | omega) (by rfl) (pa_cons (pv 8) (pa_cons (pv 4) pa_nil))))) pa_nil)) pa_nil))))))
      (pss_one (ps_ret (pe_callTy call_tuple_of (by rfl) B.b_tuple (by decide +kernel) (pa_cons (pv 3) pa_nil)))))))), ?_⟩
  try dsimp only [cxOf]
  rintro ds po ⟨c, dr, sh, le, lo, most, n, many, spare, W, w, xs, rfl, o, g, ⟨eW, f⟩, l, rfl⟩
  have m1 := o.m1
  have m10 := o.m10
  have s5 := o.s5
  have w9 := g.le
  have ll := lot_len l (by omega)
  have nb := (bse_ok (many := many) l).nd
  have bl := bse_len many xs
  repeat' walk_at "yy"
  refine c_sortDk (by rw [knW_len]; omega) fun ys p1 p2 => ?_
  rw [knW_keys] at p1
  obtain rfl := srtF_of p1 p2
  rw [ints_f]
  repeat' walk_at "yy"
  all_goals rw [cut_toG, show (fDs (srtF xs)).take many = fDs (bse many xs) from List.map_take.symm] at *
  · have c1 := of_decide_eq_true ‹_›
    rw [fDs_len] at c1
    rw [if_pos (by omega)]
  · have c1 := of_decide_eq_false ‹_›
    rw [fDs_len] at c1
    rw [if_neg (by omega)]
    intro p hp
    repeat' walk_at "yy"
    refine sj_for ?_
    repeat' walk_at "yy"
    refine ⟨⟨by omega, by omega⟩, ?_⟩
    rw [Int.toNat_natCast, rg_pl (by omega)]
    refine ⟨fun k es M => ∃ e4 e5 e6 e7 e8, es = [.dat (frmD c dr sh lo most le n many spare), .dat (dicI (knW w xs)), .dat (.list (fDs (bse many xs))), .ref p, e4, e5, e6, e7, e8] ∧ M = [(p, .lst ((wordsP (IP W (bse many xs) w) many).take k))], ⟨_, _, _, _, _, rfl, rfl⟩, ?_, ?_⟩
    · rintro k d es M hd ⟨e4, e5, e6, e7, e8, rfl, rfl⟩
      obtain ⟨y, hy, rfl⟩ := fDs_at hd
      have kl := (List.getElem?_eq_some_iff.mp hy).1
      rw [plF_len] at kl
      rw [plF_at kl] at hy
      obtain rfl := Option.some.inj hy
      repeat' walk_at "yy"
      refine ev_lc (own_name (by decide)) ?_
      repeat' walk_at "yy"
      refine c_width (n := n) (many := many) (spare := spare) f ?_
      rw [← eW]
      repeat' walk_at "yy"
      refine ⟨⟨by omega, by omega⟩, ?_⟩
      rw [Int.toNat_natCast]
      refine ⟨fun i acc M => acc = ((List.range W).take i).map (fun i => PyData.list (ptsW w i (bse many xs))) ∧ M = [(p, .lst ((wordsP (IP W (bse many xs) w) many).take k))], ⟨rfl, rfl⟩, fun i d acc M hd e => ?_, fun acc M e => ?_⟩
      · obtain ⟨e, rfl⟩ := e
        obtain ⟨iW, rfl⟩ := rgD_at hd
        rw [show (0 : Int) + (i : Int) = (i : Int) by omega]
        have wi : ∀ x, atI (fDs (w x)) (i : Int) = some (fD ((w x).getD i 0)) := fun x => word_i (by rw [g.len]; exact iW)
        refine ⟨by rw [e, List.length_map, List.length_take, List.length_range]; omega, ?_⟩
        repeat' (first | exact absurd ‹true = false› (by decide) | walk_at "yy")
        refine ev_lc (own_name (by decide)) ?_
        repeat' walk_at "yy"
        refine ⟨fun j ac M => ac = ptsW w i ((bse many xs).take j) ∧ M = [(p, .lst ((wordsP (IP W (bse many xs) w) many).take k))], ⟨rfl, rfl⟩, fun j d ac M hd e2 => ?_, fun ac M e2 => ?_⟩
        · obtain ⟨e2, rfl⟩ := e2
          obtain ⟨x, hx, rfl⟩ := fDs_at hd
          have jl := (List.getElem?_eq_some_iff.mp hx).1
          refine ⟨by rw [e2, List.length_map, List.length_take]; omega, ?_⟩
          repeat' (first | exact absurd ‹true = false› (by decide) | walk_at "yy")
          refine ⟨knW w xs, _, _, rfl, rfl, knW_get (bse_mem (List.mem_of_getElem? hx)), ?_⟩
          unfold tF
          repeat' (first | refine o_ixT (wi x) ?_ | walk_at "yy")
          refine ⟨?_, rfl⟩
          rw [e2, ← take_put hx]
          unfold ptsW
          rw [List.map_append]
          rfl
        · obtain ⟨e2, rfl⟩ := e2
          rw [fDs_len, List.take_length] at e2
          subst e2
          repeat' walk_at "yy"
          refine ⟨?_, rfl⟩
          rw [e, ← take_put (List.getElem?_range iW), List.map_append]
          rfl
      · obtain ⟨e, rfl⟩ := e
        rw [rgD_len, List.take_of_length_le (by rw [List.length_range]; exact Nat.le_refl _)] at e
        subst e
        repeat' walk_at "yy"
        refine ⟨ty_ref (List.Mem.head _), ?_⟩
        repeat' walk_at "yy"
        refine ev_lc (own_name (by decide)) ?_
        repeat' walk_at "yy"
        refine ⟨fun i acc M => acc = fDs ((atP (IP W (bse many xs) w) (toF (k : Int))).take i) ∧ M = [(p, .lst ((wordsP (IP W (bse many xs) w) many).take k))], ⟨rfl, rfl⟩, fun i d acc M hd e => ?_, fun acc M e => ?_⟩
        · obtain ⟨e, rfl⟩ := e
          rw [List.getElem?_map] at hd
          obtain ⟨i2, h2, rfl⟩ := Option.map_eq_some_iff.mp hd
          have il := (List.getElem?_eq_some_iff.mp h2).1
          rw [List.length_range] at il
          rw [List.getElem?_range il] at h2
          obtain rfl := Option.some.inj h2
          refine ⟨by rw [e, fDs_len, List.length_take]; omega, ?_⟩
          repeat' (first | exact absurd ‹true = false› (by decide) | refine c_at nb (by omega) ?_ | walk_at "yy")
          refine ⟨?_, rfl⟩
          rw [e]
          refine fDs_put ?_
          unfold atP IP
          rw [List.getElem?_map, List.getElem?_map, List.getElem?_range il]
          rfl
        · obtain ⟨e, rfl⟩ := e
          rw [List.length_map, List.length_range, List.take_of_length_le (by rw [atP_len, IP_len]; exact Nat.le_refl _)] at e
          subst e
          repeat' walk_at "yy"
          refine c_tuple (.lst _) ?_
          repeat' walk_at "yy"
          refine m_append (Ma := []) (Mb := []) rfl (by rw [List.length_take]; omega) ?_
          refine ⟨_, _, _, _, _, rfl, ?_⟩
          rw [← take_put (wordsP_at kl)]
          rfl
    · rintro es M ⟨e4, e5, e6, e7, e8, rfl, rfl⟩
      rw [fDs_len, plF_len, List.take_of_length_le (by rw [wordsP_len]; exact Nat.le_refl _)]
      refine sj_fast [] [] rfl hp (.keep (.keep (.keep (.hit (.keep (.keep (.keep (.keep (.keep .nil))))))))) ?_
      repeat' walk_at "yy"
      refine c_tuple (.lst _) ?_
      repeat' walk_at "yy"
      rfl
end
end K53

set_option Elab.async false
set_option linter.all false
set_option maxRecDepth 100000
set_option maxHeartbeats 1000000
set_option exponentiation.threshold 20000
namespace K53
open PySem PySem.Spec PyProof.Rows L2 Yw
local macro_rules | `(tactic| walk_at "ye") => `(tactic| first
  | ((with_reducible show Ev _ (tVar _) _ _ _); first | refine ev_dat rfl ?_ | refine ev_ref rfl ?_ | refine ev_var rfl (fun z => nomatch z) ?_)
  | ((with_reducible show Ev _ (tC _) _ _ _); first | with_reducible refine ev_int ?_ | with_reducible refine ev_bl ?_ | with_reducible refine ev_non ?_ | with_reducible refine ev_str ?_ | with_reducible refine ev_ty ?_)
  | with_reducible refine ev_op ?_
  | with_reducible refine ev_un ?_
  | with_reducible refine ev_go ?_
  | with_reducible refine ev_cb ?_
  | with_reducible refine ev_tupD ?_
  | with_reducible refine ev_lstD ?_
  | with_reducible refine ev_chain ?_
  | with_reducible refine ev_if ?_
  | with_reducible refine ev_andV ?_
  | with_reducible refine ev_orV ?_
  | with_reducible refine ev_notV ?_
  | with_reducible refine ev_sl ?_
  | with_reducible refine ev_bm ?_)
local macro_rules | `(tactic| walk_at "ya") => `(tactic| first
  | with_reducible refine ea_cons ?_
  | with_reducible refine ea_nil ?_
  | with_reducible refine eo_none ?_
  | with_reducible refine eo_some ?_
  | with_reducible refine et_test ?_
  | with_reducible refine et_B ?_
  | with_reducible refine et_and ?_
  | with_reducible refine et_or ?_
  | with_reducible refine et_not ?_
  | with_reducible refine et_yes ?_
  | with_reducible refine tg_name ?_
  | with_reducible refine tgs_nil ?_
  | with_reducible refine tgs_cons ?_
  | ((with_reducible show Tg _ (gTup _ _ _) _ _ _ _); refine tg_tup rfl ?_)
  | with_reducible refine tg_sub ?_)
local macro_rules | `(tactic| walk_at "ys") => `(tactic| first
  | with_reducible refine sj_seq ?_
  | with_reducible refine sj_next ?_
  | with_reducible refine sj_newD ?_
  | with_reducible refine sj_set ?_
  | with_reducible refine sj_par ?_
  | with_reducible refine sj_ret ?_
  | with_reducible refine sj_drop ?_
  | with_reducible refine sj_if ?_
  | with_reducible refine sj_asg ?_
  | with_reducible refine sj_augS ?_
  | with_reducible refine iw_seq ?_
  | with_reducible refine iw_zip ?_
  | with_reducible refine iw_list ?_
  | with_reducible refine iw_tup ?_
  | with_reducible refine iw_r1 ?_
  | with_reducible refine iw_r2 ?_
  | with_reducible refine iw_enumT ?_)
local macro_rules | `(tactic| walk_at "yo") => `(tactic| first
  | with_reducible refine o_int ?_
  | with_reducible refine o_bool ?_
  | with_reducible refine o_mul (by first | exact mulR ⟨by decide, by decide⟩ | exact mulL ⟨by decide, by decide⟩) ?_
  | with_reducible refine o_mul ?_ ?_
  | with_reducible refine o_mod (by decide) ?_
  | with_reducible refine o_mod ?_ ?_
  | with_reducible refine o_div (by decide) (by decide +kernel) ?_
  | with_reducible refine o_cat ?_ ?_
  | with_reducible refine o_catT ?_ ?_
  | ((with_reducible show Op2 _ (rIxL _) (Ent.ref _) _ _ _); refine o_ixM (List.Mem.head _) rfl ?_)
  | with_reducible refine o_eqI ?_
  | with_reducible refine o_neI ?_
  | with_reducible refine o_eqS ?_
  | with_reducible refine o_neS ?_
  | with_reducible refine o_neg ?_
  | ((with_reducible show Op2 _ (rIxT _) _ _ _ _); refine o_ixT rfl ?_)
  | ((with_reducible show Op2 _ (rIxL _) (Ent.dat _) _ _ _); refine o_ixL rfl ?_)
  | ((with_reducible show Op2 _ (rI CPow _) _ _ _ _); refine o_pow ⟨by decide, by decide, by decide⟩ rfl ?_)
  | with_reducible refine c_abs ?_
  | with_reducible refine c_int ?_
  | with_reducible refine c_min2 ?_
  | with_reducible refine c_max2 ?_
  | with_reducible refine c_gcd ?_
  | with_reducible refine sl_L ?_
  | with_reducible refine c_len (.lst _) ?_
  | with_reducible refine c_len (.tup _) ?_)
local macro_rules | `(tactic| walk_at "yx") => `(tactic| first
  | with_reducible refine ⟨_, rfl, ?_⟩
  | with_reducible refine ⟨_, _, rfl, ?_⟩
  | with_reducible refine ⟨fun _ => ?_, fun _ => ?_⟩
  | ((with_reducible show ∃ _ _ _ _ _ _, _ = _ ∧ _ = _ ∧ _ = _ ∧ _ = _ ∧ _); refine ⟨[], _, _, _, _, _, rfl, rfl, rfl, rfl, ?_⟩)
  | ((with_reducible show ∃ _ _ _ _ _, _ = _ ∧ _ = _ ∧ _ ∧ _ ∧ _ ∧ _ = _ ∧ _ = _ ∧ _); refine ⟨_, _, _, _, _, rfl, rfl, List.Mem.head _, by decide, by decide, rfl, rfl, ?_⟩)
  | ((with_reducible show ∃ _ _ _, _ = _ ∧ _ = _ ∧ _); refine ⟨[], _, _, rfl, rfl, ?_⟩)
  | ((with_reducible show ∃ _, Ds _ _ ∧ _ ∧ _); refine ⟨_, (by repeat (first | exact Ds.nil | apply Ds.cons)), (by simp), ?_⟩))
local macro_rules | `(tactic| walk_at "yy") => `(tactic| first | walk_at "ye" | walk_at "ya" | walk_at "ys" | walk_at "yo" | walk_at "yx" | walk_at "yc")

local macro_rules | `(tactic| walk_at "ys") => `(tactic| first | with_reducible refine sj_set ?_)
local macro_rules | `(tactic| walk_at "yc") => `(tactic| first | with_reducible refine c_take ?_ ?_ ?_ | with_reducible refine isi_tt ?_ | with_reducible refine isi_lt ?_ | with_reducible refine isi_nt ?_ | with_reducible refine ev_revT ?_)
/-! ### the law's own word on groups, and near groups -/
def rIsGrpL : RR := rIsGroupW
def rNear : RR := fun ds po => ∃ (ps : List (List F97)) (N : Nat), ds = [.tuple (wordsP ps N)] ∧ 1 ≤ N ∧ N ≤ 20 ∧ 1 ≤ ps.length ∧ ps.length ≤ 100 ∧ po = fun r => ThOk N r
section
variable {K : PySem.W.Frag} {M : MM} {Q : Ent → MM → Prop} {c dr sh : PyData} {le : Int} {lo most n many spare : Nat} {d : PyData}
theorem c_isGrpL (o : FO many spare) (f : FmOk lo most n many spare) (w9 : fW lo most n many spare ≤ 100) (h : ThOk (many + spare) d) (q : ∀ v, Says (many + spare) (fW lo most n many spare) many d v → Q (.dat (.bool v)) M) : Cb K (fun vs H Q => SpQ K rIsGrpL vs H Q E0) [.dat (frmD c dr sh lo most le n many spare), .dat d] M Q := c_isGroupW o f w9 h q
theorem c_near {b : Addr} {C : Bag} {Mr : MM} {ps : List (List F97)} {N : Nat} (h1 : 1 ≤ N) (h2 : N ≤ 20) (h3 : 1 ≤ ps.length) (h4 : ps.length ≤ 100) (p : ∀ d C1, ThOk N d → Q (.dat d) ((b, .lst (Bag.ds C1)) :: Mr)) :
    Cb K (fun vs H Q => SpD K rNear vs H Q E0) [.ref b, .dat (.tuple (wordsP ps N))] ((b, .lst (Bag.ds C)) :: Mr) Q :=
  c_D (.cons .nil) _ ⟨ps, N, rfl, h1, h2, h3, h4, rfl⟩ fun d C1 h => p d C1 h
end
theorem ptd_shaped {l : List PyData} (h : ∀ x ∈ l, Ptd x) : SeqAt.shaped (.list l) = true := by
  have a := all_lay (ds := l) fun x hx => by
    rcases h x hx with ⟨i, rfl⟩ | ⟨c, rfl⟩ <;> simp [PyData.canLay0]
  have b := all_dep (n := 0) (ds := l) fun x hx => by
    rcases h x hx with ⟨i, rfl⟩ | ⟨c, rfl⟩ <;> simp [PyData.depth]
  unfold SeqAt.shaped
  rw [show PyData.canLay0 (.list l) = true by simpa [PyData.canLay0] using a, Bool.true_and]
  refine decide_eq_true ?_
  simp only [PyData.depth]
  omega
theorem flt_put {l : List PyData} {j : Nat} {d : PyData} (h : l[j]? = some d) : (l.take (j + 1)).filter (fun x => !dgB x) = (l.take j).filter (fun x => !dgB x) ++ (if dgB d = true then [] else [d]) := by
  rw [← take_put h, List.filter_append]
  congr 1
  by_cases c : dgB d = true <;> simp [c]
theorem some_bad {W : Nat} {l : List PyData} {x : PyData} (h : x ∈ l) (c : wdB W x = false) : l.all (wdB W) = false := by
  refine Bool.eq_false_iff.mpr fun z => ?_
  rw [List.all_eq_true.mp z x h] at c
  cases c
theorem knW_pair (w : F97 → List F97) (l : List F97) : (knW w l).map (fun p => PyData.tuple [.int p.1, p.2]) = l.map fun x => .tuple [fD x, tF (w x)] := by
  unfold knW
  rw [List.map_map]
  rfl
theorem grp_ok {ps : List (List F97)} (h : ps.length ≤ 100) {N : Nat} : ∀ x ∈ wordsP ps N, WdOk x := fun x hx => by
  obtain ⟨y, _, rfl⟩ := List.mem_map.mp hx
  exact ok_f (by rw [atP_len]; omega)
theorem th_tup {N : Nat} {l : List PyData} (h : ∀ x ∈ l, WdOk x) : ThOk N (.tuple l) := .inr (.inr ⟨l, rfl, fun _ => h⟩)
theorem wd_tup {l : List PyData} (h : ∀ x ∈ l, Ptd x) (hl : l.length ≤ 200) : WdOk (.tuple l) := .inr ⟨l, rfl, hl, h⟩
theorem ptd_f (q : List F97) : ∀ x ∈ fDs q, Ptd x := fun x hx => by
  obtain ⟨y, _, rfl⟩ := List.mem_map.mp hx
  exact .inl ⟨_, rfl⟩
theorem mem_app {P : PyData → Prop} {a b : List PyData} (ha : ∀ x ∈ a, P x) (hb : ∀ x ∈ b, P x) : ∀ x ∈ a ++ b, P x := fun x hx => (List.mem_append.mp hx).elim (ha x) (hb x)
theorem mem_one {P : PyData → Prop} {d : PyData} (h : P d) : ∀ x ∈ [d], P x := fun x hx => by rw [List.mem_singleton.mp hx]; exact h
theorem cut_all2 {P : PyData → Prop} {l : List PyData} {lo hi : Option Int} (h : ∀ x ∈ l, P x) : ∀ x ∈ cutY l lo hi, P x := fun x hx => h x (cut_mem hx)
section
variable {P : Program} {w : World} {K : PySem.W.Frag} {mg : Str → Option Value} {base : Heap}
set_option maxHeartbeats 4000000 in
theorem ok_l_is_group (B : Bt mg) (D_l_do_agree : Has P w K mg base 3 "_law_do_agree" ["form", "known"] (SpQ K rDoAgree)) (D_l_width : Has P w K mg base 2 "_law_width" ["form"] (SpQ K rWidth)) (D_l_is_int : Has P w K mg base 1 "_law_is_int" ["thing"] (SpQ K rIntX)) (T : Stands K mg "_law_is_group" s_l_is_group ["form", "thing"]) : Has P w K mg base 4 "_law_is_group" ["form", "thing"] (SpQ K rIsGrpL) := by
  refine hasQ T sc_l_is_group (fun ds po ⟨c, dr, sh, le, lo, most, n, many, spare, d, e, _⟩ => by rw [e]; rfl) 3 rfl fun f cdv A outer s H E g hr => ⟨_, (pss_cons (ps_if (PW.pt (pw_or (pt_not (pt_val (pe_callB call_isi (by rfl) B.b_isinstance (by decide +kernel) (pa_cons (pv 1) (pa_cons (pe_bltn (v := .ty "tuple") (by rfl) B.b_tuple (by rfl) rfl) pa_nil))))) (pw_or1 (pt_cmpR op_ne (pe_callB call_len_seq (by rfl) B.b_len (by decide +kernel) (pa_cons (pv 1) pa_nil)) (pe_op op_add (pe_ix ix_tup (pv 0) pe_int (fun _ _ => rfl)) (pe_ix ix_tup (pv 0) pe_int (fun _ _ => rfl))) (nomark _))))) (pss_one (ps_ret pe_bl)) pss_nil)
      (pss_cons (ps_for PassesOwn.never rfl (pi_tup (pv 1)) (pg_name (i := 2) sc_l_is_group.nd rfl (by first | exact .inl rfl | exact .inr rfl)) (pss_cons (ps_if (PW.pt (pw_or (pt_not (pt_val (pe_callB call_isi (by rfl) B.b_isinstance (by decide +kernel) (pa_cons (pv 2) (pa_cons (pe_bltn (v := .ty "tuple") (by rfl) B.b_tuple (by rfl) rfl) pa_nil))))) (pw_or1 (pt_cmpR op_ne (pe_callB call_len_seq (by rfl) B.b_len (by decide +kernel) (pa_cons (pv 2) pa_nil)) (peD D_l_width g hr (by first | decide | exact Nat.le_refl _ | omega) (by rfl) (pa_cons (pv 0) pa_nil)) (nomark _))))) (pss_one (ps_ret pe_bl)) pss_nil)
      (pss_one (ps_if (pt_cmpR (op_neD hr.units) (pe_lc (own := [("one", 3)]) (g := gName 3) (tt := _) rfl sc_l_is_group.nd (pi_tup (pv 2)) (blkOk_by (N := N_l_is_group) (sc := defScope s_l_is_group) (by decide +kernel)) (fun _ _ _ _ _ => (pg_name (i := 3) sc_l_is_group.nd rfl (by first | exact .inl rfl | exact .inr rfl))) (fun _ _ _ _ _ => pts_one (PW.pt (pw_or (pt_not (pt_val (peD D_l_is_int g hr (by first | decide | exact Nat.le_refl _ | omega) (by rfl) (pa_cons (pv 3) pa_nil)))) (pw_or1 (pt_not (pt_chain op_le op_lt pe_int (pv 3) pe_int)))))) (fun _ _ _ _ _ => (pv 3))) (pe_lst pa_nil) (nomark _)) (pss_one (ps_ret pe_bl)) pss_nil))))
      (pss_one (ps_ret (peD D_l_do_agree g hr (by first | decide | exact Nat.le_refl _ | omega) (by rfl) (pa_cons (pv 0) (pa_cons (pe_callTy (call_dictP rfl) (by rfl) B.b_dict (by decide +kernel) (pa_cons (pe_lc (own := [("place", 4), ("word", 2)]) (g := gTup _ 2 (gCons (gName 4) (gCons (gName 2) (gNil)))) (tt := tYes) rfl sc_l_is_group.nd (pi_enumT (by rfl) B.b_enumerate (pa_cons (pv 1) pa_nil)) (blkOk_by (N := N_l_is_group) (sc := defScope s_l_is_group) (by decide +kernel)) (fun _ _ _ _ _ => (pg_tup rfl (pgs_cons (pg_name (i := 4) sc_l_is_group.nd rfl (by first | exact .inl rfl | exact .inr rfl)) (pgs_cons (pg_name (i := 2) sc_l_is_group.nd rfl (by first | exact .inl rfl | exact .inr rfl)) pgs_nil)))) (fun _ _ _ _ _ => pts_nil) (fun _ _ _ _ _ => (pe_tup (pa_cons (pv 4) (pa_cons (pv 2) pa_nil))))) pa_nil)) pa_nil))))))), ?_⟩
  try dsimp only [cxOf]
  rintro ds po ⟨c, dr, sh, le, lo, most, n, many, spare, d, rfl, o, f, w9, hd, rfl⟩
  have m1 := o.m1
  have m10 := o.m10
  have s5 := o.s5
  generalize eW : fW lo most n many spare = W at w9
  rcases hd with rfl | ⟨ys, rfl⟩ | ⟨ys, rfl, hy⟩
  · repeat' (first | exact absurd ‹(!false) = false› (by decide) | exact absurd ‹true = false› (by decide) | walk_at "yy")
    exact says_not rfl
  · repeat' (first | exact absurd ‹(!false) = false› (by decide) | exact absurd ‹true = false› (by decide) | walk_at "yy")
    exact says_not rfl
  · repeat' (first | exact absurd ‹(!true) = true› (by decide) | exact absurd ‹true = false› (by decide) | walk_at "yy")
    · have c1 : (!decide ((ys.length : Int) = (many : Int) + (spare : Int))) = true := ‹_›
      refine says_not ?_
      show decide ((ys.length : Int) = ((many + spare : Nat) : Int)) = false
      rw [show ((many + spare : Nat) : Int) = (many : Int) + (spare : Int) by omega]
      simpa using c1
    · have c1 : (!decide ((ys.length : Int) = (many : Int) + (spare : Int))) = false := ‹_›
      have yl : ys.length = many + spare := by
        simp only [Bool.not_eq_false', decide_eq_true_eq] at c1
        omega
      have hy := hy yl
      refine sj_for ?_
      repeat' walk_at "yy"
      refine ⟨fun k es M => ∃ e2 e3 e4, es = [.dat (frmD c dr sh lo most le n many spare), .dat (.tuple ys), e2, e3, e4] ∧ M = [] ∧ ∀ x ∈ ys.take k, wdB W x = true, ⟨_, _, _, rfl, rfl, fun x hx => by simp at hx⟩, ?_, ?_⟩
      · rintro k d es M hd ⟨e2, e3, e4, rfl, rfl, hg⟩
        have hm := List.mem_of_getElem? hd
        rcases hy d hm with ⟨zs, rfl⟩ | ⟨zs, rfl, zl, hz⟩
        · repeat' (first | exact absurd ‹(!false) = false› (by decide) | exact absurd ‹true = false› (by decide) | walk_at "yy")
          exact says_no (some_bad hm rfl)
        · repeat' (first | exact absurd ‹(!true) = true› (by decide) | exact absurd ‹true = false› (by decide) | (refine c_width (n := n) (many := many) (spare := spare) f ?_; rw [eW]) | walk_at "yy")
          · have c2 : (!decide ((zs.length : Int) = (W : Int))) = true := ‹_›
            refine says_no (some_bad hm ?_)
            show (decide ((zs.length : Int) = (W : Int)) && zs.all dgB) = false
            rw [show decide ((zs.length : Int) = (W : Int)) = false by simpa using c2]
            rfl
          · have c2 : (!decide ((zs.length : Int) = (W : Int))) = false := ‹_›
            have zW : decide ((zs.length : Int) = (W : Int)) = true := by simpa using c2
            refine ev_lc (own_name (by decide)) ?_
            repeat' walk_at "yy"
            refine ⟨fun j acc M => acc = (zs.take j).filter (fun x => !dgB x) ∧ M = [], ⟨rfl, rfl⟩, fun j d acc M hd e => ?_, fun acc M e => ?_⟩
            · obtain ⟨e, rfl⟩ := e
              have jl := (List.getElem?_eq_some_iff.mp hd).1
              have fl : ((zs.take j).filter (fun x => !dgB x)).length ≤ 200 := Nat.le_trans (List.length_filter_le _ _) (by rw [List.length_take]; omega)
              have e1 := flt_put hd
              refine ⟨by rw [e]; omega, ?_⟩
              rcases hz d (List.mem_of_getElem? hd) with ⟨i, rfl⟩ | ⟨v, rfl⟩
              · repeat' (first | refine c_intX (.inl ⟨i, rfl⟩) ?_ | exact absurd ‹(!isI (.int i)) = true› (by simp [isI]) | exact absurd ‹true = false› (by decide) | walk_at "yy")
                all_goals
                  refine ⟨?_, rfl⟩
                  rw [e, e1]
                  first
                  | (have h := of_decide_eq_false ‹decide (0 ≤ i) = false›; rw [if_neg (by show ¬ (decide (0 ≤ i) && decide (i < 97)) = true; simp; omega)])
                  | (have h : (!decide (i < 97)) = true := ‹_›; simp only [Bool.not_eq_true', decide_eq_false_iff_not] at h; rw [if_neg (by show ¬ (decide (0 ≤ i) && decide (i < 97)) = true; simp; omega)])
                  | (have a := of_decide_eq_true ‹decide (0 ≤ i) = true›; have h : (!decide (i < 97)) = false := ‹_›; simp only [Bool.not_eq_false', decide_eq_true_eq] at h; rw [if_pos (by show (decide (0 ≤ i) && decide (i < 97)) = true; simp; omega), List.append_nil])
              · repeat' (first | refine c_intX (.inr ⟨v, rfl⟩) ?_ | exact absurd ‹(!isI (.bool v)) = false› (by simp [isI]) | exact absurd ‹true = false› (by decide) | walk_at "yy")
                refine ⟨?_, rfl⟩
                rw [e, e1, if_neg (by simp [dgB])]
            · obtain ⟨e, rfl⟩ := e
              rw [List.take_length] at e
              subst e
              repeat' walk_at "yy"
              refine o_neD (ptd_shaped fun x hx => hz x (List.mem_filter.mp hx).1) shaped_nil ?_
              rw [eqv_nil]
              repeat' walk_at "yy"
              · have c3 : (!decide (zs.filter (fun x => !dgB x) = [])) = true := ‹_›
                refine says_no (some_bad hm ?_)
                show (decide ((zs.length : Int) = (W : Int)) && zs.all dgB) = false
                rw [zW, Bool.true_and]
                refine Bool.eq_false_iff.mpr fun z => ?_
                have : zs.filter (fun x => !dgB x) = [] := List.filter_eq_nil_iff.mpr fun x hx => by rw [List.all_eq_true.mp z x hx]; decide
                rw [this] at c3
                simp at c3
              · have c3 : (!decide (zs.filter (fun x => !dgB x) = [])) = false := ‹_›
                refine ⟨_, _, _, rfl, rfl, ?_⟩
                rw [← take_put hd]
                refine mem_app hg (mem_one ?_)
                show (decide ((zs.length : Int) = (W : Int)) && zs.all dgB) = true
                rw [zW, Bool.true_and, List.all_eq_true]
                simp only [Bool.not_eq_false', decide_eq_true_eq] at c3
                intro x hx
                have := List.filter_eq_nil_iff.mp c3 x hx
                simpa using this
      · rintro es M ⟨e2, e3, e4, rfl, rfl, hg⟩
        rw [List.take_length] at hg
        obtain ⟨w, g, rfl⟩ := by_place (by omega) w9 yl hg
        have la := lot_all (n := many + spare) (by omega)
        repeat' walk_at "yy"
        refine ev_lc (own_pair (by decide) (by decide)) ?_
        repeat' walk_at "yy"
        refine ⟨fun k acc M => acc = ((plF (many + spare)).take k).map (fun x => .tuple [fD x, tF (w x)]) ∧ M = [], ⟨rfl, rfl⟩, fun k d acc M hd e => ?_, fun acc M e => ?_⟩
        · obtain ⟨e, rfl⟩ := e
          obtain ⟨a, ha, rfl⟩ := enumD_at hd
          have hk := (List.getElem?_eq_some_iff.mp ha).1
          rw [wordsW_len] at hk
          rw [wordsW_at hk] at ha
          obtain rfl := Option.some.inj ha
          have hp := plF_at hk
          have e1 : ((0 + k : Nat) : Int) = fI (toF (k : Int)) := by rw [fI_pl (by omega)]; omega
          refine ⟨by rw [e, List.length_map, List.length_take, plF_len]; omega, ?_⟩
          repeat' (first | exact absurd ‹true = false› (by decide) | walk_at "yy")
          refine ⟨?_, rfl⟩
          rw [e, e1, ← take_put hp, List.map_append]
          rfl
        · obtain ⟨e, rfl⟩ := e
          rw [enumD_len, wordsW_len, List.take_of_length_le (by rw [plF_len]; exact Nat.le_refl _), ← knW_pair] at e
          subst e
          repeat' walk_at "yy"
          refine c_dictPk (by rw [knW_keys]; exact fI_map_nodup la.nd) ?_
          repeat' walk_at "yy"
          refine c_doAgree o g ⟨eW.symm, f⟩ la ?_
          repeat' walk_at "yy"
          unfold agr
          rw [bse_pl (by omega) (by omega)]
          exact says_good g (by omega) (by omega)
set_option maxHeartbeats 4000000 in
theorem ok_l_near_group (B : Bt mg) (D_l_take : Has P w K mg base 1 "_law_take" ["bag", "many"] (SpD K rTake)) (D_l_some : Has P w K mg base 2 "_law_some" ["bag", "things"] (SpD K rSome)) (T : Stands K mg "_law_near_group" s_l_near_group ["bag", "group"]) : Has P w K mg base 3 "_law_near_group" ["bag", "group"] (SpD K rNear) := by
  refine hasD T sc_l_near_group (fun ds po ⟨ps, N, e, _⟩ => by rw [e]; rfl) 4 rfl fun f cdv A outer s H E g hr => ⟨_, (pss_cons (ps_par (i := 2) (j := 3) (by rfl) sc_l_near_group.nd rfl rfl (by decide) rfl rfl (pa_cons (peD D_l_take g hr (by first | decide | exact Nat.le_refl _ | omega) (by rfl) (pa_cons (pv 0) (pa_cons (pe_callB call_len_seq (by rfl) B.b_len (by decide +kernel) (pa_cons (pv 1) pa_nil)) pa_nil))) (pa_cons (peD D_l_take g hr (by first | decide | exact Nat.le_refl _ | omega) (by rfl) (pa_cons (pv 0) (pa_cons pe_int pa_nil))) pa_nil)) (by rfl))
      (pss_cons (ps_if (pt_cmpR op_eq (pv 3) pe_int (nomark _)) (pss_one (ps_ret (peD D_l_some g hr (by first | decide | exact Nat.le_refl _ | omega) (by rfl) (pa_cons (pv 0) (pa_cons (pe_lst (pa_cons (pe_callTy call_list_of (by rfl) B.b_list (by decide +kernel) (pa_cons (pv 1) pa_nil)) (pa_cons (pe_slice sl_tupA (pv 1) po_none (po_some (pe_un un_neg pe_int))) (pa_cons (pe_op op_catA (pv 1) (pe_slice sl_tupA (pv 1) po_none (po_some pe_int))) (pa_cons pe_non (pa_cons (pe_tup pa_nil) (pa_cons (pe_revT (pv 1)) pa_nil))))))) pa_nil))))) pss_nil)
      (pss_cons (ps_set (i := 4) sc_l_near_group.nd rfl (by first | exact .inl rfl | exact .inr rfl) (pe_ix ix_tup (pv 1) (pv 2) (fun _ _ => rfl)))
      (pss_cons (ps_set (i := 5) sc_l_near_group.nd rfl (by first | exact .inl rfl | exact .inr rfl) (pe_lst (pa_cons (pe_op op_catA (pe_slice sl_tupA (pv 4) po_none (po_some (pe_un un_neg pe_int))) (pe_tup (pa_cons (pe_op op_mod (pe_op op_add (pe_ix ix_tup (pv 4) (pe_un un_neg pe_int) (fun _ _ => rfl)) pe_int) pe_int) pa_nil))) (pa_cons (pe_op op_catA (pv 4) (pe_tup (pa_cons pe_int pa_nil))) (pa_cons (pe_slice sl_tupA (pv 4) (po_some pe_int) po_none) (pa_cons (pe_callTy call_list_of (by rfl) B.b_list (by decide +kernel) (pa_cons (pv 4) pa_nil)) (pa_cons (pe_op op_catA (pe_slice sl_tupA (pv 4) po_none (po_some (pe_un un_neg pe_int))) (pe_tup (pa_cons pe_int pa_nil))) (pa_cons (pe_op op_catA (pe_slice sl_tupA (pv 4) po_none (po_some (pe_un un_neg pe_int))) (pe_tup (pa_cons pe_bl pa_nil))) pa_nil))))))))
      (pss_one (ps_ret (pe_op op_catA (pe_op op_catA (pe_slice sl_tupA (pv 1) po_none (po_some (pv 2))) (pe_tup (pa_cons (peD D_l_some g hr (by first | decide | exact Nat.le_refl _ | omega) (by rfl) (pa_cons (pv 0) (pa_cons (pv 5) pa_nil))) pa_nil))) (pe_slice sl_tupA (pv 1) (po_some (pe_op op_add (pv 2) pe_int)) po_none)))))))), ?_⟩
  try dsimp only [cxOf]
  rintro b C ds po ⟨ps, N, rfl, n1, n20, w1, w9, rfl⟩
  have gok := grp_ok w9 (N := N)
  repeat' walk_at "yy"
  · rw [wordsP_len]; omega
  · rw [wordsP_len]; show _ < _; omega
  intro v C1 v0 v1
  rw [wordsP_len] at v1
  repeat' walk_at "yy"
  · decide
  · show _ < _; decide
  intro t C2 t0 t1
  repeat' walk_at "yy"
  · repeat' (first | refine c_list (.tup _) ?_ | refine sl_T ?_ | walk_at "yy")
    all_goals first | (have := cut_lenK (ds := wordsP ps N) (lo := none) (hi := some 1) (n := 20) (by rw [wordsP_len]; exact n20); rw [wordsP_len]; omega) | skip
    refine c_some (by simp) (by simp) fun d C3 hd => ?_
    refine ⟨_, rfl, ⟨C3, [], rfl⟩, ?_⟩
    simp only [List.mem_cons, List.not_mem_nil, or_false] at hd
    rcases hd with rfl | rfl | rfl | rfl | rfl | rfl
    · exact .inr (.inl ⟨_, rfl⟩)
    · exact th_tup (cut_all2 gok)
    · exact th_tup (mem_app gok (cut_all2 gok))
    · exact .inl rfl
    · exact th_tup fun x hx => (nomatch hx)
    · exact th_tup fun x hx => gok x (List.mem_reverse.mp hx)
  · have iv : atI (wordsP ps N) v = some (wordD ps (toF v)) := by
      have e : v = fI (toF v) := (fI_toF v0 (by omega)).symm
      rw [e, toF_fI]
      exact wordsP_i (by rw [← e]; omega)
    obtain ⟨init, lst, eq⟩ : ∃ init lst, atP ps (toF v) = init ++ [lst] := by
      rcases List.eq_nil_or_concat (atP ps (toF v)) with h | ⟨a, b, h⟩
      · have := congrArg List.length h
        rw [atP_len, List.length_nil] at this
        omega
      · exact ⟨a, b, by rw [h, List.concat_eq_append]⟩
    have il : init.length + 1 ≤ 100 := by
      have := congrArg List.length eq
      rw [atP_len, List.length_append] at this
      simp at this
      omega
    have ewd : wordD ps (toF v) = .tuple (fDs init ++ [fD lst]) := by
      unfold wordD
      rw [eq]
      unfold fDs
      rw [List.map_append]
      rfl
    rw [ewd] at iv
    have ptw : ∀ x ∈ fDs init ++ [fD lst], Ptd x := mem_app (ptd_f _) (mem_one (.inl ⟨_, rfl⟩))
    have lw : (fDs init ++ [fD lst]).length ≤ 100 := by rw [List.length_append, fDs_len]; exact il
    have cl : ∀ lo hi, (cutY (fDs init ++ [fD lst]) lo hi).length ≤ 100 := fun lo hi => cut_lenK lw
    have gl : ∀ lo hi, (cutY (wordsP ps N) lo hi).length ≤ 20 := fun lo hi => cut_lenK (by rw [wordsP_len]; exact n20)
    have i1 : atI (fDs init ++ [fD lst]) (-1) = some (fD lst) := atI_last _ _
    have c1 := cl none (some (-1))
    repeat' (first | refine o_ixT iv ?_ | refine o_ixT i1 ?_ | refine c_list (.tup _) ?_ | refine sl_T ?_ | walk_at "yy")
    all_goals first | (simp only [List.length_cons, List.length_nil]; omega) | skip
    refine c_some (by simp) (by simp) fun d C3 hd => ?_
    have hw : WdOk d := by
      simp only [List.mem_cons, List.not_mem_nil, or_false] at hd
      rcases hd with rfl | rfl | rfl | rfl | rfl | rfl
      · exact wd_tup (mem_app (cut_all2 ptw) (mem_one (.inl ⟨_, rfl⟩))) (by rw [List.length_append]; simp; omega)
      · exact wd_tup (mem_app ptw (mem_one (.inl ⟨_, rfl⟩))) (by rw [List.length_append]; simp only [List.length_cons, List.length_nil]; omega)
      · exact wd_tup (cut_all2 ptw) (by have := cl (some 1) none; omega)
      · exact .inl ⟨_, rfl⟩
      · exact wd_tup (mem_app (cut_all2 ptw) (mem_one (.inl ⟨_, rfl⟩))) (by rw [List.length_append]; simp; omega)
      · exact wd_tup (mem_app (cut_all2 ptw) (mem_one (.inr ⟨_, rfl⟩))) (by rw [List.length_append]; simp; omega)
    clear hd
    have g1 := gl none (some v)
    have g2 := gl (some (v + 1)) none
    repeat' (first | refine sl_T ?_ | walk_at "yy")
    all_goals first | (simp only [List.length_append, List.length_cons, List.length_nil]; omega) | skip
    refine ⟨⟨C3, [], rfl⟩, ?_⟩
    exact th_tup (mem_app (mem_app (cut_all2 gok) (mem_one hw)) (cut_all2 gok))
end
end K53

set_option Elab.async false
set_option linter.all false
set_option maxRecDepth 100000
set_option maxHeartbeats 1000000
set_option exponentiation.threshold 20000
namespace K53
open PySem PySem.Spec PyProof.Rows L2 Yw
local macro_rules | `(tactic| walk_at "ye") => `(tactic| first
  | ((with_reducible show Ev _ (tVar _) _ _ _); first | refine ev_dat rfl ?_ | refine ev_ref rfl ?_ | refine ev_var rfl (fun z => nomatch z) ?_)
  | ((with_reducible show Ev _ (tC _) _ _ _); first | with_reducible refine ev_int ?_ | with_reducible refine ev_bl ?_ | with_reducible refine ev_non ?_ | with_reducible refine ev_str ?_ | with_reducible refine ev_ty ?_)
  | with_reducible refine ev_op ?_
  | with_reducible refine ev_un ?_
  | with_reducible refine ev_go ?_
  | with_reducible refine ev_cb ?_
  | with_reducible refine ev_tupD ?_
  | with_reducible refine ev_lstD ?_
  | with_reducible refine ev_chain ?_
  | with_reducible refine ev_if ?_
  | with_reducible refine ev_andV ?_
  | with_reducible refine ev_orV ?_
  | with_reducible refine ev_notV ?_
  | with_reducible refine ev_sl ?_
  | with_reducible refine ev_bm ?_)
local macro_rules | `(tactic| walk_at "ya") => `(tactic| first
  | with_reducible refine ea_cons ?_
  | with_reducible refine ea_nil ?_
  | with_reducible refine eo_none ?_
  | with_reducible refine eo_some ?_
  | with_reducible refine et_test ?_
  | with_reducible refine et_B ?_
  | with_reducible refine et_and ?_
  | with_reducible refine et_or ?_
  | with_reducible refine et_not ?_
  | with_reducible refine et_yes ?_
  | with_reducible refine tg_name ?_
  | with_reducible refine tgs_nil ?_
  | with_reducible refine tgs_cons ?_
  | ((with_reducible show Tg _ (gTup _ _ _) _ _ _ _); refine tg_tup rfl ?_)
  | with_reducible refine tg_sub ?_)
local macro_rules | `(tactic| walk_at "ys") => `(tactic| first
  | with_reducible refine sj_seq ?_
  | with_reducible refine sj_next ?_
  | with_reducible refine sj_newD ?_
  | with_reducible refine sj_set ?_
  | with_reducible refine sj_par ?_
  | with_reducible refine sj_ret ?_
  | with_reducible refine sj_drop ?_
  | with_reducible refine sj_if ?_
  | with_reducible refine sj_asg ?_
  | with_reducible refine sj_augS ?_
  | with_reducible refine iw_seq ?_
  | with_reducible refine iw_zip ?_
  | with_reducible refine iw_list ?_
  | with_reducible refine iw_tup ?_
  | with_reducible refine iw_r1 ?_
  | with_reducible refine iw_r2 ?_
  | with_reducible refine iw_enumT ?_)
local macro_rules | `(tactic| walk_at "yo") => `(tactic| first
  | with_reducible refine o_int ?_
  | with_reducible refine o_bool ?_
  | with_reducible refine o_mul (by first | exact mulR ⟨by decide, by decide⟩ | exact mulL ⟨by decide, by decide⟩) ?_
  | with_reducible refine o_mul ?_ ?_
  | with_reducible refine o_mod (by decide) ?_
  | with_reducible refine o_mod ?_ ?_
  | with_reducible refine o_div (by decide) (by decide +kernel) ?_
  | with_reducible refine o_cat ?_ ?_
  | with_reducible refine o_catT ?_ ?_
  | ((with_reducible show Op2 _ (rIxL _) (Ent.ref _) _ _ _); refine o_ixM (List.Mem.head _) rfl ?_)
  | with_reducible refine o_eqI ?_
  | with_reducible refine o_neI ?_
  | with_reducible refine o_eqS ?_
  | with_reducible refine o_neS ?_
  | with_reducible refine o_neg ?_
  | ((with_reducible show Op2 _ (rIxT _) _ _ _ _); refine o_ixT rfl ?_)
  | ((with_reducible show Op2 _ (rIxL _) (Ent.dat _) _ _ _); refine o_ixL rfl ?_)
  | ((with_reducible show Op2 _ (rI CPow _) _ _ _ _); refine o_pow ⟨by decide, by decide, by decide⟩ rfl ?_)
  | with_reducible refine c_abs ?_
  | with_reducible refine c_int ?_
  | with_reducible refine c_min2 ?_
  | with_reducible refine c_max2 ?_
  | with_reducible refine c_gcd ?_
  | with_reducible refine sl_L ?_
  | with_reducible refine c_len (.lst _) ?_
  | with_reducible refine c_len (.tup _) ?_)
local macro_rules | `(tactic| walk_at "yx") => `(tactic| first
  | with_reducible refine ⟨_, rfl, ?_⟩
  | with_reducible refine ⟨_, _, rfl, ?_⟩
  | with_reducible refine ⟨fun _ => ?_, fun _ => ?_⟩
  | ((with_reducible show ∃ _ _ _ _ _ _, _ = _ ∧ _ = _ ∧ _ = _ ∧ _ = _ ∧ _); refine ⟨[], _, _, _, _, _, rfl, rfl, rfl, rfl, ?_⟩)
  | ((with_reducible show ∃ _ _ _ _ _, _ = _ ∧ _ = _ ∧ _ ∧ _ ∧ _ ∧ _ = _ ∧ _ = _ ∧ _); refine ⟨_, _, _, _, _, rfl, rfl, List.Mem.head _, by decide, by decide, rfl, rfl, ?_⟩)
  | ((with_reducible show ∃ _ _ _, _ = _ ∧ _ = _ ∧ _); refine ⟨[], _, _, rfl, rfl, ?_⟩)
  | ((with_reducible show ∃ _, Ds _ _ ∧ _ ∧ _); refine ⟨_, (by repeat (first | exact Ds.nil | apply Ds.cons)), (by simp), ?_⟩))
local macro_rules | `(tactic| walk_at "yy") => `(tactic| first | walk_at "ye" | walk_at "ya" | walk_at "ys" | walk_at "yo" | walk_at "yx" | walk_at "yc")

local macro_rules | `(tactic| walk_at "ys") => `(tactic| first | with_reducible refine sj_set ?_)
local macro_rules | `(tactic| walk_at "yc") => `(tactic| first | with_reducible refine c_take ?_ ?_ ?_ | with_reducible refine isi_tt ?_)
/-! ### the law -/
theorem c_roomy {K : PySem.W.Frag} {b : Addr} {C : Bag} {Mr : MM} {Q : Ent → MM → Prop} (p : ∀ c dr sh le (lo most n many spare : Nat) (C1 : Bag), FmOk lo most n many spare → FO many spare → 0 < fW lo most n many spare → Q (.dat (frmD c dr sh lo most le n many spare)) ((b, .lst (Bag.ds C1)) :: Mr)) :
    Cb K (fun vs H Q => SpD K rRoomy vs H Q E0) [.ref b] ((b, .lst (Bag.ds C)) :: Mr) Q :=
  c_D .nil _ ⟨rfl, rfl⟩ fun d C1 ⟨c, dr, sh, le, lo, most, n, many, spare, e, f, m10, s5, w⟩ => by rw [e]; exact p c dr sh le lo most n many spare C1 f ⟨f.m1, m10, s5⟩ w
theorem kv_show {w : F97 → List F97} {W : Nat} (g : WsOk W w) : ∀ xs : List F97, PyData.showableKv ((knW w xs).map fun p => (PyData.int p.1, p.2)) = true ∧ PyData.depthKv ((knW w xs).map fun p => (PyData.int p.1, p.2)) ≤ 1 ∧ ((PyData.shownKv ((knW w xs).map fun p => (PyData.int p.1, p.2))).map (·.length)).sum ≤ xs.length * 2000 ∧ (PyData.shownKv ((knW w xs).map fun p => (PyData.int p.1, p.2))).length = xs.length
  | [] => by simp [knW, PyData.showableKv, PyData.depthKv, PyData.shownKv]
  | x :: xs => by
    obtain ⟨a, b, c, d⟩ := kv_show g xs
    have wt := wt_t (l := w x) (by rw [g.len]; exact g.le)
    have wi : Wt 12 0 (.int (fI x)) := Wt.intK (k := 11) (by decide) (by decide) (by have := fI_lt x; show _ < _; omega)
    have e : (knW w (x :: xs)).map (fun p => (PyData.int p.1, p.2)) = (PyData.int (fI x), tF (w x)) :: (knW w xs).map fun p => (PyData.int p.1, p.2) := rfl
    rw [e]
    refine ⟨?_, ?_, ?_, ?_⟩
    · simp only [PyData.showableKv, wi.sho, wt.sho, a, Bool.and_self]
    · simp only [PyData.depthKv]
      exact Nat.max_le.mpr ⟨Nat.max_le.mpr ⟨Nat.le_trans wi.dep (by decide), wt.dep⟩, b⟩
    · simp only [PyData.shownKv, List.map_cons, List.sum_cons, List.length_cons]
      have l1 := wi.len
      have l2 := wt.len
      have e3 : (PyData.shown (.int (fI x)) ++ Str.ofString ": " ++ PyData.shown (tF (w x))).length = (PyData.shown (.int (fI x))).length + 2 + (PyData.shown (tF (w x))).length := by
        rw [strLen_append, strLen_append]
        rfl
      rw [e3]
      omega
    · simp only [PyData.shownKv, List.length_cons, d]
theorem known_show {w : F97 → List F97} {W : Nat} (g : WsOk W w) {xs : List F97} (hx : xs.length ≤ 20) : (dicI (knW w xs)).showable = true ∧ (dicI (knW w xs)).depth ≤ 60 ∧ (dicI (knW w xs)).shown.length ≤ sizeLine := by
  obtain ⟨a, b, c, d⟩ := kv_show g xs
  unfold dicI
  refine ⟨by simpa only [PyData.showable] using a, by simp only [PyData.depth]; omega, ?_⟩
  refine size_ok (w := 50000) ?_ (by decide)
  simp only [PyData.shown]
  have := dictText_len_le (PyData.shownKv ((knW w xs).map fun p => (PyData.int p.1, p.2)))
  omega
theorem wsok_grp {ps : List (List F97)} {W : Nat} (h : ps.length = W) (w9 : W ≤ 100) : WsOk W (atP ps) := ⟨w9, fun x => (atP_len ps x).trans h⟩
/-- one word changed -/
def chg (w : F97 → List F97) (x : F97) (p : List F97) : F97 → List F97 := fun y => if y = x then p else w y
theorem chg_ok {w : F97 → List F97} {W : Nat} (g : WsOk W w) {x : F97} {p : List F97} (h : p.length = W) : WsOk W (chg w x p) := ⟨g.le, fun y => by
  unfold chg
  by_cases c : y = x
  · rw [if_pos c]; exact h
  · rw [if_neg c]; exact g.len y⟩
theorem chg_put {w : F97 → List F97} {xs : List F97} {x : F97} {p : List F97} (h : x ∈ xs) : putD (kvK (knW w xs)) (.inl (fI x)) (tF p) = kvK (knW (chg w x p) xs) := by
  rw [kvK_put (by rw [knW_get h]; rfl)]
  congr 1
  unfold knW
  rw [List.map_map]
  refine List.map_congr_left fun y _ => ?_
  show (if fI y = fI x then (fI y, tF p) else (fI y, tF (w y))) = (fI y, tF (chg w x p y))
  unfold chg
  by_cases c : y = x
  · rw [if_pos (by rw [c]), if_pos c]
  · rw [if_neg fun z => c (fI_inj z), if_neg c]
theorem wt_pair {a b : PyData} (ha : Wt 50000 3 a) (hb : Wt 50000 3 b) : Wt 1000000 20 (.list [a, b]) :=
  Wt.up (Wt.list (n := 2) (fun d hd => by
    rcases List.mem_cons.mp hd with e | hd
    · rw [e]; exact ha
    · rw [List.mem_singleton.mp hd]; exact hb) (Nat.le_refl 2)) (by decide) (by decide)
theorem wt_bo (v : Bool) : Wt 50000 3 (.bool v) := (Wt.bool v).up (by decide) (by decide)
theorem gr_says {ps : List (List F97)} {N W many : Nat} (hl : ∀ q ∈ ps, q.length = many) (h : ps.length = W) (w9 : W ≤ 100) (hm : many ≤ 97) {v : Bool} (s : Says N W many (.tuple (wordsP ps N)) v) : v = true := by
  rw [s.2 (atP ps) (wsok_grp h w9) rfl, decide_eq_true_iff]
  intro x _
  subst h
  rw [IP_grp hl hm]
theorem wt_rest {W many : Nat} {ats : List F97} {w : F97 → List F97} {n : Nat} (h : W ≤ 100) (hm : many ≤ 20) : Wt 50000 3 (if n < many then PyData.none else .tuple (wordsP (IP W ats w) many)) := by
  by_cases c : n < many
  · rw [if_pos c]
    exact Wt.up Wt.non (by decide) (by decide)
  · rw [if_neg c]
    exact (wt_words (by rw [IP_len]; exact h) hm).up (by decide) (by decide)
section
variable {P : Program} {w : World} {K : PySem.W.Frag} {mg : Str → Option Value} {base : Heap}
set_option maxHeartbeats 8000000 in
theorem ok_law {fl : Addr} {fd : FuncData} (B : Bt mg) (D_l_bag : Has P w K mg base 1 "_law_bag" ["script"] (SpN K)) (D_l_roomy : Has P w K mg base 8 "_law_roomy" ["bag"] (SpD K rRoomy)) (D_l_group : Has P w K mg base 3 "_law_group" ["bag", "form"] (SpD K rGroup)) (D_l_alike : Has P w K mg base 1 "_law_alike" ["found", "due"] (SpQ K rAlike)) (D_l_near_group : Has P w K mg base 3 "_law_near_group" ["bag", "group"] (SpD K rNear)) (D_l_some : Has P w K mg base 2 "_law_some" ["bag", "things"] (SpD K rSome)) (D_l_due_restored : Has P w K mg base 3 "_law_due_restored" ["form", "known"] (SpQ K rDueRest)) (D_l_do_agree : Has P w K mg base 3 "_law_do_agree" ["form", "known"] (SpQ K rDoAgree)) (D_spread : Has P w K mg base 4 "spread" ["form", "words"] (SpQ K rSpreadW)) (D_is_group : Has P w K mg base 5 "is_group" ["form", "thing"] (SpQ K rIsGroupW)) (D_l_is_group : Has P w K mg base 4 "_law_is_group" ["form", "thing"] (SpQ K rIsGrpL)) (D_l_take : Has P w K mg base 1 "_law_take" ["bag", "many"] (SpD K rTake)) (D_restored : Has P w K mg base 4 "restored" ["form", "known"] (SpQ K rRestW)) (D_agree : Has P w K mg base 4 "agree" ["form", "known"] (SpQ K rAgreeW)) (D_l_mixed : Has P w K mg base 2 "_law_mixed" ["bag", "things"] (SpD K rMixed)) (F : Fun K "law" "law" s_law fl fd) : FnG P w K mg base 9 fl fd ["script"] (SpLaw K) := by
  refine hasLawF F sc_law 10 rfl fun f cdv A outer s H E g hr => ⟨_, (pss_cons (ps_set (i := 1) sc_law.nd rfl (by first | exact .inl rfl | exact .inr rfl) (peD D_l_bag g hr (by first | decide | exact Nat.le_refl _ | omega) (by rfl) (pa_cons (pv 0) pa_nil)))
      (pss_cons (ps_for PassesOwn.never rfl (pi_range1 (by rfl) B.b_range (pa_cons pe_int pa_nil)) (pg_name (i := 2) sc_law.nd rfl (by first | exact .inl rfl | exact .inr rfl)) (pss_cons (ps_set (i := 3) sc_law.nd rfl (by first | exact .inl rfl | exact .inr rfl) (peD D_l_roomy g hr (by first | decide | exact Nat.le_refl _ | omega) (by rfl) (pa_cons (pv 1) pa_nil)))
      (pss_cons (ps_asg (pe_tup (pa_cons (peD D_l_group g hr (by first | decide | exact Nat.le_refl _ | omega) (by rfl) (pa_cons (pv 1) (pa_cons (pv 3) pa_nil))) (pa_cons (pe_listRg rfl (by rfl) B.b_list (prg_1 (by rfl) B.b_range (pe_op op_add (pe_ix ix_tup (pv 3) pe_int (fun _ _ => rfl)) (pe_ix ix_tup (pv 3) pe_int (fun _ _ => rfl))))) pa_nil))) (pg_tup rfl (pgs_cons (pg_name (i := 4) sc_law.nd rfl (by first | exact .inl rfl | exact .inr rfl)) (pgs_cons (pg_name (i := 5) sc_law.nd rfl (by first | exact .inl rfl | exact .inr rfl)) pgs_nil))))
      (pss_cons (ps_if (pt_not (pt_val (peD D_l_alike g hr (by first | decide | exact Nat.le_refl _ | omega) (by rfl) (pa_cons (pe_lst (pa_cons (peD D_spread g hr (by first | decide | exact Nat.le_refl _ | omega) (by rfl) (pa_cons (pv 3) (pa_cons (pe_slice sl_tupA (pv 4) po_none (po_some (pe_ix ix_tup (pv 3) pe_int (fun _ _ => rfl)))) pa_nil))) (pa_cons (peD D_is_group g hr (by first | decide | exact Nat.le_refl _ | omega) (by rfl) (pa_cons (pv 3) (pa_cons (pv 4) pa_nil))) pa_nil))) (pa_cons (pe_lst (pa_cons (pv 4) (pa_cons pe_bl pa_nil))) pa_nil))))) (pss_one (ps_ret pe_bl)) pss_nil)
      (pss_cons (ps_for PassesOwn.never rfl (pi_range1 (by rfl) B.b_range (pa_cons pe_int pa_nil)) (pg_name (i := 6) sc_law.nd rfl (by first | exact .inl rfl | exact .inr rfl)) (pss_cons (ps_set (i := 7) sc_law.nd rfl (by first | exact .inl rfl | exact .inr rfl) (peD D_l_near_group g hr (by first | decide | exact Nat.le_refl _ | omega) (by rfl) (pa_cons (pv 1) (pa_cons (pv 4) pa_nil))))
      (pss_one (ps_if (pt_not (pt_val (peD D_l_alike g hr (by first | decide | exact Nat.le_refl _ | omega) (by rfl) (pa_cons (peD D_is_group g hr (by first | decide | exact Nat.le_refl _ | omega) (by rfl) (pa_cons (pv 3) (pa_cons (pv 7) pa_nil))) (pa_cons (peD D_l_is_group g hr (by first | decide | exact Nat.le_refl _ | omega) (by rfl) (pa_cons (pv 3) (pa_cons (pv 7) pa_nil))) pa_nil))))) (pss_one (ps_ret pe_bl)) pss_nil))))
      (pss_one (ps_for PassesOwn.never rfl (pi_range1 (by rfl) B.b_range (pa_cons pe_int pa_nil)) (pg_name (i := 6) sc_law.nd rfl (by first | exact .inl rfl | exact .inr rfl)) (pss_cons (ps_set (i := 8) sc_law.nd rfl (by first | exact .inl rfl | exact .inr rfl) (pe_callTy (call_dictOf rfl) (by rfl) B.b_dict (by decide +kernel) (pa_cons (pe_lc (own := [("place", 9)]) (g := gName 9) (tt := tYes) rfl sc_law.nd (pi_list (pe_slice sl_list (peD D_l_mixed g hr (by first | decide | exact Nat.le_refl _ | omega) (by rfl) (pa_cons (pv 1) (pa_cons (pv 5) pa_nil))) po_none (po_some (peD D_l_take g hr (by first | decide | exact Nat.le_refl _ | omega) (by rfl) (pa_cons (pv 1) (pa_cons (pe_op op_add (pe_callB call_len_seq (by rfl) B.b_len (by decide +kernel) (pa_cons (pv 5) pa_nil)) pe_int) pa_nil)))))) (blkOk_by (N := N_law) (sc := defScope s_law) (by decide +kernel)) (fun _ _ _ _ _ => (pg_name (i := 9) sc_law.nd rfl (by first | exact .inl rfl | exact .inr rfl))) (fun _ _ _ _ _ => pts_nil) (fun _ _ _ _ _ => (pe_tup (pa_cons (pv 9) (pa_cons (pe_ix (ixtK (K := K) rfl) (pv 4) (pv 9) (fun _ _ => rfl)) pa_nil))))) pa_nil)))
      (pss_cons (ps_if (PW.pt (pw_and (pt_cmpR (op_neDE (Nat.lt_of_le_of_lt (Nat.le_add_right _ _) hr.units)) (pv 8) pe_dnewK (nomark _)) (pw_and1 (pt_cmpR op_eq (peD D_l_take g hr (by first | decide | exact Nat.le_refl _ | omega) (by rfl) (pa_cons (pv 1) (pa_cons pe_int pa_nil))) pe_int (nomark _))))) (pss_cons (ps_set (i := 9) sc_law.nd rfl (by first | exact .inl rfl | exact .inr rfl) (peD D_l_some g hr (by first | decide | exact Nat.le_refl _ | omega) (by rfl) (pa_cons (pv 1) (pa_cons (pe_callTy (list_keysR rfl) (by rfl) B.b_list (by decide +kernel) (pa_cons (pv 8) pa_nil)) pa_nil))))
      (pss_one (ps_dput (Nat.lt_of_le_of_lt (Nat.add_le_add_left (by decide) _) (room66 hr)) (pv 8) (pv 9) (pe_op op_catA (pe_slice sl_tupA (pe_dget (Nat.lt_of_le_of_lt (Nat.add_le_add_left (by decide) _) (room66 hr)) (pv 8) (pv 9) (fun _ _ => rfl)) po_none (po_some (pe_un un_neg pe_int))) (pe_tup (pa_cons (peD D_l_take g hr (by first | decide | exact Nat.le_refl _ | omega) (by rfl) (pa_cons (pv 1) (pa_cons pe_int pa_nil))) pa_nil))) rfl))) pss_nil)
      (pss_cons (ps_set (i := 10) sc_law.nd rfl (by first | exact .inl rfl | exact .inr rfl) (pe_callB (call_showE g (room66 hr)) (by rfl) B.b_repr (by decide +kernel) (pa_cons (pv 8) pa_nil)))
      (pss_cons (ps_set (i := 11) sc_law.nd rfl (by first | exact .inl rfl | exact .inr rfl) (pe_lst (pa_cons (peD D_l_due_restored g hr (by first | decide | exact Nat.le_refl _ | omega) (by rfl) (pa_cons (pv 3) (pa_cons (pv 8) pa_nil))) (pa_cons (peD D_l_do_agree g hr (by first | decide | exact Nat.le_refl _ | omega) (by rfl) (pa_cons (pv 3) (pa_cons (pv 8) pa_nil))) pa_nil))))
      (pss_cons (ps_if (pt_not (pt_val (peD D_l_alike g hr (by first | decide | exact Nat.le_refl _ | omega) (by rfl) (pa_cons (pe_lst (pa_cons (peD D_restored g hr (by first | decide | exact Nat.le_refl _ | omega) (by rfl) (pa_cons (pv 3) (pa_cons (pv 8) pa_nil))) (pa_cons (peD D_agree g hr (by first | decide | exact Nat.le_refl _ | omega) (by rfl) (pa_cons (pv 3) (pa_cons (pv 8) pa_nil))) pa_nil))) (pa_cons (pv 11) pa_nil))))) (pss_one (ps_ret pe_bl)) pss_nil)
      (pss_one (ps_if (pt_cmpR op_ne (pe_callB (call_showE g (room66 hr)) (by rfl) B.b_repr (by decide +kernel) (pa_cons (pv 8) pa_nil)) (pv 10) (nomark _)) (pss_one (ps_ret pe_bl)) pss_nil))))))))))))))
      (pss_one (ps_ret pe_bl)))), ?_⟩
  try dsimp only [cxOf]
  intro b C0
  repeat' walk_at "yy"
  refine sj_for ?_
  repeat' walk_at "yy"
  refine ⟨by decide, ?_⟩
  refine ⟨fun k es M => ∃ C e2 e3 e4 e5 e6 e7 e8 e9 e10 e11, es = [.no, .ref b, e2, e3, e4, e5, e6, e7, e8, e9, e10, e11] ∧ M = [(b, .lst (Bag.ds C))], ⟨_, _, _, _, _, _, _, _, _, _, _, rfl, rfl⟩, ?_, ?_⟩
  rotate_left
  · rintro es M ⟨C, e2, e3, e4, e5, e6, e7, e8, e9, e10, e11, rfl, rfl⟩
    repeat' walk_at "yy"
    rfl
  rintro k d es M hd ⟨C, e2, e3, e4, e5, e6, e7, e8, e9, e10, e11, rfl, rfl⟩
  clear hd
  repeat' walk_at "yy"
  refine c_roomy fun c dr sh le lo most n many spare C1 f o w0 => ?_
  have m1 := o.m1
  have m10 := o.m10
  have s5 := o.s5
  have w9 := fW_le f
  repeat' walk_at "yy"
  refine c_group o f w9 fun ps C2 hl pl => ?_
  have gw : WsOk ps.length (atP ps) := wsok_grp rfl (by omega)
  have wG := (wt_words (ps := ps) (n := many + spare) (by omega) (by omega)).up (w2 := 50000) (dp2 := 3) (by decide) (by decide)
  repeat' walk_at "yy"
  refine ev_listRg ?_
  repeat' walk_at "yy"
  refine ⟨RgOk.of_le (by omega) (by omega) (by omega) (by omega), ?_⟩
  rw [rgN (by omega)]
  repeat' walk_at "yy"
  refine sl_T ?_
  rw [cut_toG, show (wordsP ps (many + spare)).take many = wordsW (atP ps) many from wordsW_take (by omega)]
  repeat' walk_at "yy"
  refine c_spreadW o gw ?_
  rw [IP_grp hl (by omega)]
  repeat' walk_at "yy"
  refine c_isGroupW o f w9 (th_tup (grp_ok (by omega))) fun v hv => ?_
  obtain rfl := gr_says hl pl w9 (by omega) hv
  repeat' walk_at "yy"
  refine c_alike rfl (wt_pair wG (wt_bo true)) ?_
  repeat' (first | exact absurd ‹(!true) = true› (by decide) | walk_at "yy")
  refine sj_for ?_
  repeat' walk_at "yy"
  refine ⟨by decide, ?_⟩
  refine ⟨fun k es M => ∃ C e2 e6 e7 e8 e9 e10 e11, es = [.no, .ref b, e2, .dat (frmD c dr sh lo most le n many spare), .dat (.tuple (wordsP ps (many + spare))), .dat (.list (fDs (plF (many + spare)))), e6, e7, e8, e9, e10, e11] ∧ M = [(b, .lst (Bag.ds C))], ⟨_, _, _, _, _, _, _, _, rfl, rfl⟩, ?_, ?_⟩
  · rintro k d es M hd ⟨C3, e2, e6, e7, e8, e9, e10, e11, rfl, rfl⟩
    clear hd
    repeat' walk_at "yy"
    refine c_near (by omega) (by omega) (by omega) (by omega) fun d C4 th => ?_
    repeat' walk_at "yy"
    refine c_isGroupW o f w9 th fun v1 s1 => ?_
    repeat' walk_at "yy"
    refine c_isGrpL o f w9 th fun v2 s2 => ?_
    obtain rfl := says_one (by omega) w9 s1 s2
    repeat' walk_at "yy"
    refine c_alike rfl ((Wt.bool v1).up (by decide) (by decide)) ?_
    repeat' (first | exact absurd ‹(!true) = true› (by decide) | walk_at "yy")
    exact ⟨_, _, _, _, _, _, _, _, rfl, rfl⟩
  rintro es M ⟨C3, e2, e6, e7, e8, e9, e10, e11, rfl, rfl⟩
  repeat' walk_at "yy"
  refine sj_for ?_
  repeat' walk_at "yy"
  refine ⟨by decide, ?_⟩
  refine ⟨fun k es M => ∃ C e2 e6 e7 e8 e9 e10 e11, es = [.no, .ref b, e2, .dat (frmD c dr sh lo most le n many spare), .dat (.tuple (wordsP ps (many + spare))), .dat (.list (fDs (plF (many + spare)))), e6, e7, e8, e9, e10, e11] ∧ M = [(b, .lst (Bag.ds C))], ⟨_, _, _, _, _, _, _, _, rfl, rfl⟩, ?_, ?_⟩
  rotate_left
  · rintro es M ⟨C3, e2, e6, e7, e8, e9, e10, e11, rfl, rfl⟩
    repeat' walk_at "yy"
    exact ⟨_, _, _, _, _, _, _, _, _, _, _, rfl, rfl⟩
  rintro k d es M hd ⟨C3, e2, e6, e7, e8, e9, e10, e11, rfl, rfl⟩
  clear hd
  refine tg_name ?_
  refine sj_seq ?_
  refine sj_setD ?_
  refine evD_dict ?_
  repeat' walk_at "yy"
  refine ev_lc (own_name (by decide)) ?_
  repeat' walk_at "yy"
  refine c_mixed (by rw [fDs_len, plF_len]; omega) fun fs C5 pf => ?_
  obtain ⟨zs, rfl, pz⟩ := mixed_back pf
  repeat' walk_at "yy"
  · rw [fDs_len, plF_len]
    omega
  · rw [fDs_len, plF_len]
    show _ < _
    omega
  intro v C6 v0 v1
  repeat' walk_at "yy"
  have ev0 : v = ((v.toNat : Nat) : Int) := by omega
  rw [ev0, cut_toG, show (fDs zs).take v.toNat = fDs (zs.take v.toNat) from List.map_take.symm]
  have lu := ((lot_all (n := many + spare) (by omega)).perm pz).take v.toNat
  have ul := lot_len lu (by omega)
  generalize zs.take v.toNat = us at lu ul ⊢
  refine ⟨fun j acc M => acc = (knW (atP ps) (us.take j)).map (fun p => PyData.tuple [.int p.1, p.2]) ∧ M = [(b, .lst (Bag.ds C6))], ⟨rfl, rfl⟩, fun j d acc M hd e => ?_, fun acc M e => ?_⟩
  · obtain ⟨e, rfl⟩ := e
    obtain ⟨x, hx, rfl⟩ := fDs_at hd
    have hm := List.mem_of_getElem? hx
    have jl := (List.getElem?_eq_some_iff.mp hx).1
    refine ⟨by rw [e, List.length_map, knW_len, List.length_take]; omega, ?_⟩
    repeat' (first | exact absurd ‹true = false› (by decide) | refine o_ixT (wordsP_i (lu.lt x hm)) ?_ | walk_at "yy")
    refine ⟨?_, rfl⟩
    rw [e, ← knW_put hx, List.map_append]
    rfl
  obtain ⟨e, rfl⟩ := e
  rw [fDs_len, List.take_length] at e
  subst e
  repeat' walk_at "yy"
  refine ⟨by rw [knW_keys]; exact fI_map_nodup lu.nd, ?_⟩
  intro p hp
  rw [show [(b, MO.lst (Bag.ds C6))] ++ [(p, MO.dct (kvK (knW (atP ps) us)))] = [(b, MO.lst (Bag.ds C6)), (p, MO.dct (kvK (knW (atP ps) us)))] from rfl]
  refine sj_seq ?_
  refine Sj.weak (J := fun es M => ∃ (w : F97 → List F97) (C : Bag) (e2 e6 e7 e9 e10 e11 : Ent), es = [.no, .ref b, e2, .dat (frmD c dr sh lo most le n many spare), .dat (.tuple (wordsP ps (many + spare))), .dat (.list (fDs (plF (many + spare)))), e6, e7, .ref p, e9, e10, e11] ∧ M = [(b, .lst (Bag.ds C)), (p, .dct (kvK (knW w us)))] ∧ WsOk ps.length w) ?_ ?_
  · repeat' (first | exact absurd ‹false = true› (by decide) | refine ev_dnewI ?_ | refine o_neDE (List.Mem.tail _ (List.Mem.head _)) ?_ | walk_at "yy")
    · decide
    · show _ < _
      decide
    · intro t C7 t0 t1
      repeat' (first | refine c_listDm (List.Mem.tail _ (List.Mem.head _)) ?_ | walk_at "yy")
      · have c1 := of_decide_eq_true ‹decide (knW (atP ps) us ≠ []) = true›
        have une : us ≠ [] := fun z => c1 (by rw [z]; rfl)
        rw [keys_w]
        repeat' walk_at "yy"
        refine c_some (fun z => une (fDs_nil.mp z)) (by rw [fDs_len]; omega) fun d C8 hd => ?_
        obtain ⟨x, hx, rfl⟩ := List.mem_map.mp hd
        clear hd
        obtain ⟨init, lst, eq⟩ : ∃ init lst, atP ps x = init ++ [lst] := by
          rcases List.eq_nil_or_concat (atP ps x) with h | ⟨a, b, h⟩
          · have := congrArg List.length h
            rw [atP_len, List.length_nil] at this
            omega
          · exact ⟨a, b, by rw [h, List.concat_eq_append]⟩
        have il : init.length + 1 = ps.length := by
          have := congrArg List.length eq
          rw [atP_len, List.length_append] at this
          simpa using this.symm
        have ew : tF (atP ps x) = .tuple (fDs init ++ [fD lst]) := by
          unfold tF
          rw [eq]
          unfold fDs
          rw [List.map_append]
          rfl
        repeat' (first | refine ev_dget ?_ | refine sj_dput ?_ | walk_at "yy")
        refine ⟨p, _, _, _, rfl, rfl, List.Mem.tail _ (List.Mem.head _), by rw [valD_kvK]; exact knW_get hx, ?_⟩
        rw [ew]
        repeat' walk_at "yy"
        refine sl_T ?_
        rw [cut_butlast, List.dropLast_concat]
        repeat' walk_at "yy"
        · decide
        · show _ < _
          decide
        intro y C9 y0 y1
        repeat' walk_at "yy"
        all_goals first | (simp only [List.length_cons, List.length_nil]; rw [fDs_len]; omega) | skip
        refine ⟨[(b, _)], [], p, _, _, _, rfl, rfl, rfl, rfl, by rw [kvK_len, knW_len]; omega, ?_⟩
        have ey : PyData.tuple (fDs init ++ [PyData.int y]) = tF (init ++ [toF y]) := by
          unfold tF fDs
          rw [List.map_append]
          show _ = PyData.tuple (_ ++ [PyData.int (fI (toF y))])
          rw [fI_toF y0 y1]
        rw [ey, chg_put hx]
        exact ⟨chg (atP ps) x (init ++ [toF y]), C9, _, _, _, _, _, _, rfl, rfl, chg_ok gw (by rw [List.length_append]; exact il)⟩
      all_goals exact ⟨atP ps, _, _, _, _, _, _, _, rfl, rfl, gw⟩
    all_goals exact ⟨atP ps, _, _, _, _, _, _, _, rfl, rfl, gw⟩
  · rintro es M ⟨w, C7, e2, e6, e7, e9, e10, e11, rfl, rfl, gx⟩
    refine sj_fastD [(b, .lst (Bag.ds C7))] [] rfl hp (.keep (.keep (.keep (.keep (.keep (.keep (.keep (.keep (.hit (.keep (.keep (.keep .nil)))))))))))) ?_
    obtain ⟨k1, k2, k3⟩ := known_show gx (xs := us) (by omega)
    have wA := wt_rest (W := ps.length) (many := many) (ats := bse many us) (w := w) (n := us.length) (by omega) (by omega)
    repeat' walk_at "yy"
    refine c_showI k1 k2 k3 ?_
    repeat' walk_at "yy"
    refine c_dueRest o gx ⟨pl, f⟩ lu ?_
    repeat' walk_at "yy"
    refine c_doAgree o gx ⟨pl, f⟩ lu ?_
    repeat' walk_at "yy"
    refine c_restW o gx ⟨pl, f⟩ lu ?_
    repeat' walk_at "yy"
    refine c_agreeW o gx ⟨pl, f⟩ lu ?_
    repeat' walk_at "yy"
    refine c_alike rfl (wt_pair wA (wt_bo _)) ?_
    repeat' (first | exact absurd ‹(!true) = true› (by decide) | walk_at "yy")
    refine c_showI k1 k2 k3 ?_
    repeat' (first | exact absurd ‹(!decide _) = true› (by simp) | walk_at "yy")
    exact ⟨_, _, _, _, _, _, _, _, rfl, rfl⟩
end
end K53

set_option Elab.async false
set_option linter.all false
set_option maxRecDepth 100000
set_option maxHeartbeats 4000000
namespace K53
open PySem PySem.Spec PyProof.Rows L2 Yw
/-! ### what the top has written -/
theorem all_mk {l : PySem.W.OpenLaw} {w : World} {K : PySem.W.Frag} {h : Heap} {mg : Str → Option Value} {fa : Addr} (X : K.In h) (G : h.Ns mainGlobals mg) (hfa : mg "law" = some (.ref fa))
    {f0 : Addr} {od0 an0 : Option Addr} {sl0 : Array (Option Value)} {oc0 kV0 dc0 pm0 cd0 ct0 : Value}
    {f1 : Addr} {od1 an1 : Option Addr} {sl1 : Array (Option Value)} {oc1 kV1 dc1 pm1 cd1 ct1 : Value}
    {f2 : Addr} {od2 an2 : Option Addr} {sl2 : Array (Option Value)} {oc2 kV2 dc2 pm2 cd2 ct2 : Value}
    {f3 : Addr} {od3 an3 : Option Addr} {sl3 : Array (Option Value)} {oc3 kV3 dc3 pm3 cd3 ct3 : Value}
    {f4 : Addr} {od4 an4 : Option Addr} {sl4 : Array (Option Value)} {oc4 kV4 dc4 pm4 cd4 ct4 : Value}
    {f5 : Addr} {od5 an5 : Option Addr} {sl5 : Array (Option Value)} {oc5 kV5 dc5 pm5 cd5 ct5 : Value}
    {f6 : Addr} {od6 an6 : Option Addr} {sl6 : Array (Option Value)} {oc6 kV6 dc6 pm6 cd6 ct6 : Value}
    {f7 : Addr} {od7 an7 : Option Addr} {sl7 : Array (Option Value)} {oc7 kV7 dc7 pm7 cd7 ct7 : Value}
    {f8 : Addr} {od8 an8 : Option Addr} {sl8 : Array (Option Value)} {oc8 kV8 dc8 pm8 cd8 ct8 : Value}
    {f9 : Addr} {od9 an9 : Option Addr} {sl9 : Array (Option Value)} {oc9 kV9 dc9 pm9 cd9 ct9 : Value}
    {f10 : Addr} {od10 an10 : Option Addr} {sl10 : Array (Option Value)} {oc10 kV10 dc10 pm10 cd10 ct10 : Value}
    {f11 : Addr} {od11 an11 : Option Addr} {sl11 : Array (Option Value)} {oc11 kV11 dc11 pm11 cd11 ct11 : Value}
    {f12 : Addr} {od12 an12 : Option Addr} {sl12 : Array (Option Value)} {oc12 kV12 dc12 pm12 cd12 ct12 : Value}
    {f13 : Addr} {od13 an13 : Option Addr} {sl13 : Array (Option Value)} {oc13 kV13 dc13 pm13 cd13 ct13 : Value}
    {f14 : Addr} {od14 an14 : Option Addr} {sl14 : Array (Option Value)} {oc14 kV14 dc14 pm14 cd14 ct14 : Value}
    {f15 : Addr} {od15 an15 : Option Addr} {sl15 : Array (Option Value)} {oc15 kV15 dc15 pm15 cd15 ct15 : Value}
    {f16 : Addr} {od16 an16 : Option Addr} {sl16 : Array (Option Value)} {oc16 kV16 dc16 pm16 cd16 ct16 : Value}
    {f17 : Addr} {od17 an17 : Option Addr} {sl17 : Array (Option Value)} {oc17 kV17 dc17 pm17 cd17 ct17 : Value}
    {f18 : Addr} {od18 an18 : Option Addr} {sl18 : Array (Option Value)} {oc18 kV18 dc18 pm18 cd18 ct18 : Value}
    {f19 : Addr} {od19 an19 : Option Addr} {sl19 : Array (Option Value)} {oc19 kV19 dc19 pm19 cd19 ct19 : Value}
    {f20 : Addr} {od20 an20 : Option Addr} {sl20 : Array (Option Value)} {oc20 kV20 dc20 pm20 cd20 ct20 : Value}
    {f21 : Addr} {od21 an21 : Option Addr} {sl21 : Array (Option Value)} {oc21 kV21 dc21 pm21 cd21 ct21 : Value}
    {f22 : Addr} {od22 an22 : Option Addr} {sl22 : Array (Option Value)} {oc22 kV22 dc22 pm22 cd22 ct22 : Value}
    {f23 : Addr} {od23 an23 : Option Addr} {sl23 : Array (Option Value)} {oc23 kV23 dc23 pm23 cd23 ct23 : Value}
    {f24 : Addr} {od24 an24 : Option Addr} {sl24 : Array (Option Value)} {oc24 kV24 dc24 pm24 cd24 ct24 : Value}
    {f25 : Addr} {od25 an25 : Option Addr} {sl25 : Array (Option Value)} {oc25 kV25 dc25 pm25 cd25 ct25 : Value}
    {f26 : Addr} {od26 an26 : Option Addr} {sl26 : Array (Option Value)} {oc26 kV26 dc26 pm26 cd26 ct26 : Value}
    {f27 : Addr} {od27 an27 : Option Addr} {sl27 : Array (Option Value)} {oc27 kV27 dc27 pm27 cd27 ct27 : Value}
    {f28 : Addr} {od28 an28 : Option Addr} {sl28 : Array (Option Value)} {oc28 kV28 dc28 pm28 cd28 ct28 : Value}
    {f29 : Addr} {od29 an29 : Option Addr} {sl29 : Array (Option Value)} {oc29 kV29 dc29 pm29 cd29 ct29 : Value}
    {f30 : Addr} {od30 an30 : Option Addr} {sl30 : Array (Option Value)} {oc30 kV30 dc30 pm30 cd30 ct30 : Value}
    {f31 : Addr} {od31 an31 : Option Addr} {sl31 : Array (Option Value)} {oc31 kV31 dc31 pm31 cd31 ct31 : Value}
    {f32 : Addr} {od32 an32 : Option Addr} {sl32 : Array (Option Value)} {oc32 kV32 dc32 pm32 cd32 ct32 : Value}
    {f33 : Addr} {od33 an33 : Option Addr} {sl33 : Array (Option Value)} {oc33 kV33 dc33 pm33 cd33 ct33 : Value}
    {f34 : Addr} {od34 an34 : Option Addr} {sl34 : Array (Option Value)} {oc34 kV34 dc34 pm34 cd34 ct34 : Value}
    {f35 : Addr} {od35 an35 : Option Addr} {sl35 : Array (Option Value)} {oc35 kV35 dc35 pm35 cd35 ct35 : Value}
    {f36 : Addr} {od36 an36 : Option Addr} {sl36 : Array (Option Value)} {oc36 kV36 dc36 pm36 cd36 ct36 : Value}
    {f37 : Addr} {od37 an37 : Option Addr} {sl37 : Array (Option Value)} {oc37 kV37 dc37 pm37 cd37 ct37 : Value}
    {f38 : Addr} {od38 an38 : Option Addr} {sl38 : Array (Option Value)} {oc38 kV38 dc38 pm38 cd38 ct38 : Value}
    {f39 : Addr} {od39 an39 : Option Addr} {sl39 : Array (Option Value)} {oc39 kV39 dc39 pm39 cd39 ct39 : Value}
    {f40 : Addr} {od40 an40 : Option Addr} {sl40 : Array (Option Value)} {oc40 kV40 dc40 pm40 cd40 ct40 : Value}
    {f41 : Addr} {od41 an41 : Option Addr} {sl41 : Array (Option Value)} {oc41 kV41 dc41 pm41 cd41 ct41 : Value}
    {f42 : Addr} {od42 an42 : Option Addr} {sl42 : Array (Option Value)} {oc42 kV42 dc42 pm42 cd42 ct42 : Value}
    {f43 : Addr} {od43 an43 : Option Addr} {sl43 : Array (Option Value)} {oc43 kV43 dc43 pm43 cd43 ct43 : Value}
    {f44 : Addr} {od44 an44 : Option Addr} {sl44 : Array (Option Value)} {oc44 kV44 dc44 pm44 cd44 ct44 : Value}
    {f45 : Addr} {od45 an45 : Option Addr} {sl45 : Array (Option Value)} {oc45 kV45 dc45 pm45 cd45 ct45 : Value}
    {f46 : Addr} {od46 an46 : Option Addr} {sl46 : Array (Option Value)} {oc46 kV46 dc46 pm46 cd46 ct46 : Value}
    {f47 : Addr} {od47 an47 : Option Addr} {sl47 : Array (Option Value)} {oc47 kV47 dc47 pm47 cd47 ct47 : Value}
    {f48 : Addr} {od48 an48 : Option Addr} {sl48 : Array (Option Value)} {oc48 kV48 dc48 pm48 cd48 ct48 : Value}
    (a0 : PySem.W.nsIn K mainGlobals "many_bodies" = some (some (.ref f0))) (l0 : K.lookup f0 = some ⟨oc0, od0, .func (PySem.W.fnOf "many_bodies" "many_bodies" (defArgs s_many_bodies) (defBody s_many_bodies) (defScope s_many_bodies) .none kV0 dc0 pm0 an0 cd0 ct0), sl0⟩) (c0 : PySem.W.codeIn K cd0 "many_bodies" = true) (k0 : PySem.W.keepIn K (.ref f0) = true)
    (a1 : PySem.W.nsIn K mainGlobals "counts_to" = some (some (.ref f1))) (l1 : K.lookup f1 = some ⟨oc1, od1, .func (PySem.W.fnOf "counts_to" "counts_to" (defArgs s_counts_to) (defBody s_counts_to) (defScope s_counts_to) .none kV1 dc1 pm1 an1 cd1 ct1), sl1⟩) (c1 : PySem.W.codeIn K cd1 "counts_to" = true) (k1 : PySem.W.keepIn K (.ref f1) = true)
    (a2 : PySem.W.nsIn K mainGlobals "bits_of" = some (some (.ref f2))) (l2 : K.lookup f2 = some ⟨oc2, od2, .func (PySem.W.fnOf "bits_of" "bits_of" (defArgs s_bits_of) (defBody s_bits_of) (defScope s_bits_of) .none kV2 dc2 pm2 an2 cd2 ct2), sl2⟩) (c2 : PySem.W.codeIn K cd2 "bits_of" = true) (k2 : PySem.W.keepIn K (.ref f2) = true)
    (a3 : PySem.W.nsIn K mainGlobals "bits_in" = some (some (.ref f3))) (l3 : K.lookup f3 = some ⟨oc3, od3, .func (PySem.W.fnOf "bits_in" "bits_in" (defArgs s_bits_in) (defBody s_bits_in) (defScope s_bits_in) .none kV3 dc3 pm3 an3 cd3 ct3), sl3⟩) (c3 : PySem.W.codeIn K cd3 "bits_in" = true) (k3 : PySem.W.keepIn K (.ref f3) = true)
    (a4 : PySem.W.nsIn K mainGlobals "is_integer" = some (some (.ref f4))) (l4 : K.lookup f4 = some ⟨oc4, od4, .func (PySem.W.fnOf "is_integer" "is_integer" (defArgs s_is_integer) (defBody s_is_integer) (defScope s_is_integer) .none kV4 dc4 pm4 an4 cd4 ct4), sl4⟩) (c4 : PySem.W.codeIn K cd4 "is_integer" = true) (k4 : PySem.W.keepIn K (.ref f4) = true)
    (a5 : PySem.W.nsIn K mainGlobals "is_tuple_of" = some (some (.ref f5))) (l5 : K.lookup f5 = some ⟨oc5, od5, .func (PySem.W.fnOf "is_tuple_of" "is_tuple_of" (defArgs s_is_tuple_of) (defBody s_is_tuple_of) (defScope s_is_tuple_of) .none kV5 dc5 pm5 an5 cd5 ct5), sl5⟩) (c5 : PySem.W.codeIn K cd5 "is_tuple_of" = true) (k5 : PySem.W.keepIn K (.ref f5) = true)
    (a6 : PySem.W.nsIn K mainGlobals "bases_of" = some (some (.ref f6))) (l6 : K.lookup f6 = some ⟨oc6, od6, .func (PySem.W.fnOf "bases_of" "bases_of" (defArgs s_bases_of) (defBody s_bases_of) (defScope s_bases_of) .none kV6 dc6 pm6 an6 cd6 ct6), sl6⟩) (c6 : PySem.W.codeIn K cd6 "bases_of" = true) (k6 : PySem.W.keepIn K (.ref f6) = true)
    (a7 : PySem.W.nsIn K mainGlobals "many_numbers" = some (some (.ref f7))) (l7 : K.lookup f7 = some ⟨oc7, od7, .func (PySem.W.fnOf "many_numbers" "many_numbers" (defArgs s_many_numbers) (defBody s_many_numbers) (defScope s_many_numbers) .none kV7 dc7 pm7 an7 cd7 ct7), sl7⟩) (c7 : PySem.W.codeIn K cd7 "many_numbers" = true) (k7 : PySem.W.keepIn K (.ref f7) = true)
    (a8 : PySem.W.nsIn K mainGlobals "width_of" = some (some (.ref f8))) (l8 : K.lookup f8 = some ⟨oc8, od8, .func (PySem.W.fnOf "width_of" "width_of" (defArgs s_width_of) (defBody s_width_of) (defScope s_width_of) .none kV8 dc8 pm8 an8 cd8 ct8), sl8⟩) (c8 : PySem.W.codeIn K cd8 "width_of" = true) (k8 : PySem.W.keepIn K (.ref f8) = true)
    (a9 : PySem.W.nsIn K mainGlobals "is_digit" = some (some (.ref f9))) (l9 : K.lookup f9 = some ⟨oc9, od9, .func (PySem.W.fnOf "is_digit" "is_digit" (defArgs s_is_digit) (defBody s_is_digit) (defScope s_is_digit) .none kV9 dc9 pm9 an9 cd9 ct9), sl9⟩) (c9 : PySem.W.codeIn K cd9 "is_digit" = true) (k9 : PySem.W.keepIn K (.ref f9) = true)
    (a10 : PySem.W.nsIn K mainGlobals "field_less" = some (some (.ref f10))) (l10 : K.lookup f10 = some ⟨oc10, od10, .func (PySem.W.fnOf "field_less" "field_less" (defArgs s_field_less) (defBody s_field_less) (defScope s_field_less) .none kV10 dc10 pm10 an10 cd10 ct10), sl10⟩) (c10 : PySem.W.codeIn K cd10 "field_less" = true) (k10 : PySem.W.keepIn K (.ref f10) = true)
    (a11 : PySem.W.nsIn K mainGlobals "field_product" = some (some (.ref f11))) (l11 : K.lookup f11 = some ⟨oc11, od11, .func (PySem.W.fnOf "field_product" "field_product" (defArgs s_field_product) (defBody s_field_product) (defScope s_field_product) .none kV11 dc11 pm11 an11 cd11 ct11), sl11⟩) (c11 : PySem.W.codeIn K cd11 "field_product" = true) (k11 : PySem.W.keepIn K (.ref f11) = true)
    (a12 : PySem.W.nsIn K mainGlobals "field_inverse" = some (some (.ref f12))) (l12 : K.lookup f12 = some ⟨oc12, od12, .func (PySem.W.fnOf "field_inverse" "field_inverse" (defArgs s_field_inverse) (defBody s_field_inverse) (defScope s_field_inverse) .none kV12 dc12 pm12 an12 cd12 ct12), sl12⟩) (c12 : PySem.W.codeIn K cd12 "field_inverse" = true) (k12 : PySem.W.keepIn K (.ref f12) = true)
    (a13 : PySem.W.nsIn K mainGlobals "weights_at" = some (some (.ref f13))) (l13 : K.lookup f13 = some ⟨oc13, od13, .func (PySem.W.fnOf "weights_at" "weights_at" (defArgs s_weights_at) (defBody s_weights_at) (defScope s_weights_at) .none kV13 dc13 pm13 an13 cd13 ct13), sl13⟩) (c13 : PySem.W.codeIn K cd13 "weights_at" = true) (k13 : PySem.W.keepIn K (.ref f13) = true)
    (a14 : PySem.W.nsIn K mainGlobals "weighed" = some (some (.ref f14))) (l14 : K.lookup f14 = some ⟨oc14, od14, .func (PySem.W.fnOf "weighed" "weighed" (defArgs s_weighed) (defBody s_weighed) (defScope s_weighed) .none kV14 dc14 pm14 an14 cd14 ct14), sl14⟩) (c14 : PySem.W.codeIn K cd14 "weighed" = true) (k14 : PySem.W.keepIn K (.ref f14) = true)
    (a15 : PySem.W.nsIn K mainGlobals "is_word" = some (some (.ref f15))) (l15 : K.lookup f15 = some ⟨oc15, od15, .func (PySem.W.fnOf "is_word" "is_word" (defArgs s_is_word) (defBody s_is_word) (defScope s_is_word) .none kV15 dc15 pm15 an15 cd15 ct15), sl15⟩) (c15 : PySem.W.codeIn K cd15 "is_word" = true) (k15 : PySem.W.keepIn K (.ref f15) = true)
    (a16 : PySem.W.nsIn K mainGlobals "words_from" = some (some (.ref f16))) (l16 : K.lookup f16 = some ⟨oc16, od16, .func (PySem.W.fnOf "words_from" "words_from" (defArgs s_words_from) (defBody s_words_from) (defScope s_words_from) .none kV16 dc16 pm16 an16 cd16 ct16), sl16⟩) (c16 : PySem.W.codeIn K cd16 "words_from" = true) (k16 : PySem.W.keepIn K (.ref f16) = true)
    (a17 : PySem.W.nsIn K mainGlobals "spread" = some (some (.ref f17))) (l17 : K.lookup f17 = some ⟨oc17, od17, .func (PySem.W.fnOf "spread" "spread" (defArgs s_spread) (defBody s_spread) (defScope s_spread) .none kV17 dc17 pm17 an17 cd17 ct17), sl17⟩) (c17 : PySem.W.codeIn K cd17 "spread" = true) (k17 : PySem.W.keepIn K (.ref f17) = true)
    (a18 : PySem.W.nsIn K mainGlobals "is_group" = some (some (.ref f18))) (l18 : K.lookup f18 = some ⟨oc18, od18, .func (PySem.W.fnOf "is_group" "is_group" (defArgs s_is_group) (defBody s_is_group) (defScope s_is_group) .none kV18 dc18 pm18 an18 cd18 ct18), sl18⟩) (c18 : PySem.W.codeIn K cd18 "is_group" = true) (k18 : PySem.W.keepIn K (.ref f18) = true)
    (a19 : PySem.W.nsIn K mainGlobals "restored" = some (some (.ref f19))) (l19 : K.lookup f19 = some ⟨oc19, od19, .func (PySem.W.fnOf "restored" "restored" (defArgs s_restored) (defBody s_restored) (defScope s_restored) .none kV19 dc19 pm19 an19 cd19 ct19), sl19⟩) (c19 : PySem.W.codeIn K cd19 "restored" = true) (k19 : PySem.W.keepIn K (.ref f19) = true)
    (a20 : PySem.W.nsIn K mainGlobals "agree" = some (some (.ref f20))) (l20 : K.lookup f20 = some ⟨oc20, od20, .func (PySem.W.fnOf "agree" "agree" (defArgs s_agree) (defBody s_agree) (defScope s_agree) .none kV20 dc20 pm20 an20 cd20 ct20), sl20⟩) (c20 : PySem.W.codeIn K cd20 "agree" = true) (k20 : PySem.W.keepIn K (.ref f20) = true)
    (a21 : PySem.W.nsIn K mainGlobals "_law_bag" = some (some (.ref f21))) (l21 : K.lookup f21 = some ⟨oc21, od21, .func (PySem.W.fnOf "_law_bag" "_law_bag" (defArgs s_l_bag) (defBody s_l_bag) (defScope s_l_bag) .none kV21 dc21 pm21 an21 cd21 ct21), sl21⟩) (c21 : PySem.W.codeIn K cd21 "_law_bag" = true) (k21 : PySem.W.keepIn K (.ref f21) = true)
    (a22 : PySem.W.nsIn K mainGlobals "_law_take" = some (some (.ref f22))) (l22 : K.lookup f22 = some ⟨oc22, od22, .func (PySem.W.fnOf "_law_take" "_law_take" (defArgs s_l_take) (defBody s_l_take) (defScope s_l_take) .none kV22 dc22 pm22 an22 cd22 ct22), sl22⟩) (c22 : PySem.W.codeIn K cd22 "_law_take" = true) (k22 : PySem.W.keepIn K (.ref f22) = true)
    (a23 : PySem.W.nsIn K mainGlobals "_law_some" = some (some (.ref f23))) (l23 : K.lookup f23 = some ⟨oc23, od23, .func (PySem.W.fnOf "_law_some" "_law_some" (defArgs s_l_some) (defBody s_l_some) (defScope s_l_some) .none kV23 dc23 pm23 an23 cd23 ct23), sl23⟩) (c23 : PySem.W.codeIn K cd23 "_law_some" = true) (k23 : PySem.W.keepIn K (.ref f23) = true)
    (a24 : PySem.W.nsIn K mainGlobals "_law_mixed" = some (some (.ref f24))) (l24 : K.lookup f24 = some ⟨oc24, od24, .func (PySem.W.fnOf "_law_mixed" "_law_mixed" (defArgs s_l_mixed) (defBody s_l_mixed) (defScope s_l_mixed) .none kV24 dc24 pm24 an24 cd24 ct24), sl24⟩) (c24 : PySem.W.codeIn K cd24 "_law_mixed" = true) (k24 : PySem.W.keepIn K (.ref f24) = true)
    (a25 : PySem.W.nsIn K mainGlobals "_law_alike" = some (some (.ref f25))) (l25 : K.lookup f25 = some ⟨oc25, od25, .func (PySem.W.fnOf "_law_alike" "_law_alike" (defArgs s_l_alike) (defBody s_l_alike) (defScope s_l_alike) .none kV25 dc25 pm25 an25 cd25 ct25), sl25⟩) (c25 : PySem.W.codeIn K cd25 "_law_alike" = true) (k25 : PySem.W.keepIn K (.ref f25) = true)
    (a26 : PySem.W.nsIn K mainGlobals "_law_is_int" = some (some (.ref f26))) (l26 : K.lookup f26 = some ⟨oc26, od26, .func (PySem.W.fnOf "_law_is_int" "_law_is_int" (defArgs s_l_is_int) (defBody s_l_is_int) (defScope s_l_is_int) .none kV26 dc26 pm26 an26 cd26 ct26), sl26⟩) (c26 : PySem.W.codeIn K cd26 "_law_is_int" = true) (k26 : PySem.W.keepIn K (.ref f26) = true)
    (a27 : PySem.W.nsIn K mainGlobals "_law_common" = some (some (.ref f27))) (l27 : K.lookup f27 = some ⟨oc27, od27, .func (PySem.W.fnOf "_law_common" "_law_common" (defArgs s_l_common) (defBody s_l_common) (defScope s_l_common) .none kV27 dc27 pm27 an27 cd27 ct27), sl27⟩) (c27 : PySem.W.codeIn K cd27 "_law_common" = true) (k27 : PySem.W.keepIn K (.ref f27) = true)
    (a28 : PySem.W.nsIn K mainGlobals "_law_fraction" = some (some (.ref f28))) (l28 : K.lookup f28 = some ⟨oc28, od28, .func (PySem.W.fnOf "_law_fraction" "_law_fraction" (defArgs s_l_fraction) (defBody s_l_fraction) (defScope s_l_fraction) .none kV28 dc28 pm28 an28 cd28 ct28), sl28⟩) (c28 : PySem.W.codeIn K cd28 "_law_fraction" = true) (k28 : PySem.W.keepIn K (.ref f28) = true)
    (a29 : PySem.W.nsIn K mainGlobals "_law_added" = some (some (.ref f29))) (l29 : K.lookup f29 = some ⟨oc29, od29, .func (PySem.W.fnOf "_law_added" "_law_added" (defArgs s_l_added) (defBody s_l_added) (defScope s_l_added) .none kV29 dc29 pm29 an29 cd29 ct29), sl29⟩) (c29 : PySem.W.codeIn K cd29 "_law_added" = true) (k29 : PySem.W.keepIn K (.ref f29) = true)
    (a30 : PySem.W.nsIn K mainGlobals "_law_times" = some (some (.ref f30))) (l30 : K.lookup f30 = some ⟨oc30, od30, .func (PySem.W.fnOf "_law_times" "_law_times" (defArgs s_l_times) (defBody s_l_times) (defScope s_l_times) .none kV30 dc30 pm30 an30 cd30 ct30), sl30⟩) (c30 : PySem.W.codeIn K cd30 "_law_times" = true) (k30 : PySem.W.keepIn K (.ref f30) = true)
    (a31 : PySem.W.nsIn K mainGlobals "_law_is_less" = some (some (.ref f31))) (l31 : K.lookup f31 = some ⟨oc31, od31, .func (PySem.W.fnOf "_law_is_less" "_law_is_less" (defArgs s_l_is_less) (defBody s_l_is_less) (defScope s_l_is_less) .none kV31 dc31 pm31 an31 cd31 ct31), sl31⟩) (c31 : PySem.W.codeIn K cd31 "_law_is_less" = true) (k31 : PySem.W.keepIn K (.ref f31) = true)
    (a32 : PySem.W.nsIn K mainGlobals "_law_phi" = some (some (.ref f32))) (l32 : K.lookup f32 = some ⟨oc32, od32, .func (PySem.W.fnOf "_law_phi" "_law_phi" (defArgs s_l_phi) (defBody s_l_phi) (defScope s_l_phi) .none kV32 dc32 pm32 an32 cd32 ct32), sl32⟩) (c32 : PySem.W.codeIn K cd32 "_law_phi" = true) (k32 : PySem.W.keepIn K (.ref f32) = true)
    (a33 : PySem.W.nsIn K mainGlobals "_law_least" = some (some (.ref f33))) (l33 : K.lookup f33 = some ⟨oc33, od33, .func (PySem.W.fnOf "_law_least" "_law_least" (defArgs s_l_least) (defBody s_l_least) (defScope s_l_least) .none kV33 dc33 pm33 an33 cd33 ct33), sl33⟩) (c33 : PySem.W.codeIn K cd33 "_law_least" = true) (k33 : PySem.W.keepIn K (.ref f33) = true)
    (a34 : PySem.W.nsIn K mainGlobals "_law_pull" = some (some (.ref f34))) (l34 : K.lookup f34 = some ⟨oc34, od34, .func (PySem.W.fnOf "_law_pull" "_law_pull" (defArgs s_l_pull) (defBody s_l_pull) (defScope s_l_pull) .none kV34 dc34 pm34 an34 cd34 ct34), sl34⟩) (c34 : PySem.W.codeIn K cd34 "_law_pull" = true) (k34 : PySem.W.keepIn K (.ref f34) = true)
    (a35 : PySem.W.nsIn K mainGlobals "_law_needed" = some (some (.ref f35))) (l35 : K.lookup f35 = some ⟨oc35, od35, .func (PySem.W.fnOf "_law_needed" "_law_needed" (defArgs s_l_needed) (defBody s_l_needed) (defScope s_l_needed) .none kV35 dc35 pm35 an35 cd35 ct35), sl35⟩) (c35 : PySem.W.codeIn K cd35 "_law_needed" = true) (k35 : PySem.W.keepIn K (.ref f35) = true)
    (a36 : PySem.W.nsIn K mainGlobals "_law_size" = some (some (.ref f36))) (l36 : K.lookup f36 = some ⟨oc36, od36, .func (PySem.W.fnOf "_law_size" "_law_size" (defArgs s_l_size) (defBody s_l_size) (defScope s_l_size) .none kV36 dc36 pm36 an36 cd36 ct36), sl36⟩) (c36 : PySem.W.codeIn K cd36 "_law_size" = true) (k36 : PySem.W.keepIn K (.ref f36) = true)
    (a37 : PySem.W.nsIn K mainGlobals "_law_counts" = some (some (.ref f37))) (l37 : K.lookup f37 = some ⟨oc37, od37, .func (PySem.W.fnOf "_law_counts" "_law_counts" (defArgs s_l_counts) (defBody s_l_counts) (defScope s_l_counts) .none kV37 dc37 pm37 an37 cd37 ct37), sl37⟩) (c37 : PySem.W.codeIn K cd37 "_law_counts" = true) (k37 : PySem.W.keepIn K (.ref f37) = true)
    (a38 : PySem.W.nsIn K mainGlobals "_law_least_watchful" = some (some (.ref f38))) (l38 : K.lookup f38 = some ⟨oc38, od38, .func (PySem.W.fnOf "_law_least_watchful" "_law_least_watchful" (defArgs s_l_least_watchful) (defBody s_l_least_watchful) (defScope s_l_least_watchful) .none kV38 dc38 pm38 an38 cd38 ct38), sl38⟩) (c38 : PySem.W.codeIn K cd38 "_law_least_watchful" = true) (k38 : PySem.W.keepIn K (.ref f38) = true)
    (a39 : PySem.W.nsIn K mainGlobals "_law_width" = some (some (.ref f39))) (l39 : K.lookup f39 = some ⟨oc39, od39, .func (PySem.W.fnOf "_law_width" "_law_width" (defArgs s_l_width) (defBody s_l_width) (defScope s_l_width) .none kV39 dc39 pm39 an39 cd39 ct39), sl39⟩) (c39 : PySem.W.codeIn K cd39 "_law_width" = true) (k39 : PySem.W.keepIn K (.ref f39) = true)
    (a40 : PySem.W.nsIn K mainGlobals "_law_roomy" = some (some (.ref f40))) (l40 : K.lookup f40 = some ⟨oc40, od40, .func (PySem.W.fnOf "_law_roomy" "_law_roomy" (defArgs s_l_roomy) (defBody s_l_roomy) (defScope s_l_roomy) .none kV40 dc40 pm40 an40 cd40 ct40), sl40⟩) (c40 : PySem.W.codeIn K cd40 "_law_roomy" = true) (k40 : PySem.W.keepIn K (.ref f40) = true)
    (a41 : PySem.W.nsIn K mainGlobals "_law_value" = some (some (.ref f41))) (l41 : K.lookup f41 = some ⟨oc41, od41, .func (PySem.W.fnOf "_law_value" "_law_value" (defArgs s_l_value) (defBody s_l_value) (defScope s_l_value) .none kV41 dc41 pm41 an41 cd41 ct41), sl41⟩) (c41 : PySem.W.codeIn K cd41 "_law_value" = true) (k41 : PySem.W.keepIn K (.ref f41) = true)
    (a42 : PySem.W.nsIn K mainGlobals "_law_group" = some (some (.ref f42))) (l42 : K.lookup f42 = some ⟨oc42, od42, .func (PySem.W.fnOf "_law_group" "_law_group" (defArgs s_l_group) (defBody s_l_group) (defScope s_l_group) .none kV42 dc42 pm42 an42 cd42 ct42), sl42⟩) (c42 : PySem.W.codeIn K cd42 "_law_group" = true) (k42 : PySem.W.keepIn K (.ref f42) = true)
    (a43 : PySem.W.nsIn K mainGlobals "_law_at" = some (some (.ref f43))) (l43 : K.lookup f43 = some ⟨oc43, od43, .func (PySem.W.fnOf "_law_at" "_law_at" (defArgs s_l_at) (defBody s_l_at) (defScope s_l_at) .none kV43 dc43 pm43 an43 cd43 ct43), sl43⟩) (c43 : PySem.W.codeIn K cd43 "_law_at" = true) (k43 : PySem.W.keepIn K (.ref f43) = true)
    (a44 : PySem.W.nsIn K mainGlobals "_law_near_group" = some (some (.ref f44))) (l44 : K.lookup f44 = some ⟨oc44, od44, .func (PySem.W.fnOf "_law_near_group" "_law_near_group" (defArgs s_l_near_group) (defBody s_l_near_group) (defScope s_l_near_group) .none kV44 dc44 pm44 an44 cd44 ct44), sl44⟩) (c44 : PySem.W.codeIn K cd44 "_law_near_group" = true) (k44 : PySem.W.keepIn K (.ref f44) = true)
    (a45 : PySem.W.nsIn K mainGlobals "_law_is_group" = some (some (.ref f45))) (l45 : K.lookup f45 = some ⟨oc45, od45, .func (PySem.W.fnOf "_law_is_group" "_law_is_group" (defArgs s_l_is_group) (defBody s_l_is_group) (defScope s_l_is_group) .none kV45 dc45 pm45 an45 cd45 ct45), sl45⟩) (c45 : PySem.W.codeIn K cd45 "_law_is_group" = true) (k45 : PySem.W.keepIn K (.ref f45) = true)
    (a46 : PySem.W.nsIn K mainGlobals "_law_do_agree" = some (some (.ref f46))) (l46 : K.lookup f46 = some ⟨oc46, od46, .func (PySem.W.fnOf "_law_do_agree" "_law_do_agree" (defArgs s_l_do_agree) (defBody s_l_do_agree) (defScope s_l_do_agree) .none kV46 dc46 pm46 an46 cd46 ct46), sl46⟩) (c46 : PySem.W.codeIn K cd46 "_law_do_agree" = true) (k46 : PySem.W.keepIn K (.ref f46) = true)
    (a47 : PySem.W.nsIn K mainGlobals "_law_due_restored" = some (some (.ref f47))) (l47 : K.lookup f47 = some ⟨oc47, od47, .func (PySem.W.fnOf "_law_due_restored" "_law_due_restored" (defArgs s_l_due_restored) (defBody s_l_due_restored) (defScope s_l_due_restored) .none kV47 dc47 pm47 an47 cd47 ct47), sl47⟩) (c47 : PySem.W.codeIn K cd47 "_law_due_restored" = true) (k47 : PySem.W.keepIn K (.ref f47) = true)
    (a48 : PySem.W.nsIn K mainGlobals "law" = some (some (.ref f48))) (l48 : K.lookup f48 = some ⟨oc48, od48, .func (PySem.W.fnOf "law" "law" (defArgs s_law) (defBody s_law) (defScope s_law) .none kV48 dc48 pm48 an48 cd48 ct48), sl48⟩) (c48 : PySem.W.codeIn K cd48 "law" = true) (k48 : PySem.W.keepIn K (.ref f48) = true)
    (z_abs : PySem.W.nsIn K mainGlobals "abs" = some none)
    (z_all : PySem.W.nsIn K mainGlobals "all" = some none)
    (z_bool : PySem.W.nsIn K mainGlobals "bool" = some none)
    (z_dict : PySem.W.nsIn K mainGlobals "dict" = some none)
    (z_enumerate : PySem.W.nsIn K mainGlobals "enumerate" = some none)
    (z_int : PySem.W.nsIn K mainGlobals "int" = some none)
    (z_isinstance : PySem.W.nsIn K mainGlobals "isinstance" = some none)
    (z_len : PySem.W.nsIn K mainGlobals "len" = some none)
    (z_list : PySem.W.nsIn K mainGlobals "list" = some none)
    (z_max : PySem.W.nsIn K mainGlobals "max" = some none)
    (z_min : PySem.W.nsIn K mainGlobals "min" = some none)
    (z_pow : PySem.W.nsIn K mainGlobals "pow" = some none)
    (z_range : PySem.W.nsIn K mainGlobals "range" = some none)
    (z_repr : PySem.W.nsIn K mainGlobals "repr" = some none)
    (z_sorted : PySem.W.nsIn K mainGlobals "sorted" = some none)
    (z_sum : PySem.W.nsIn K mainGlobals "sum" = some none)
    (z_tuple : PySem.W.nsIn K mainGlobals "tuple" = some none)
    (z_zip : PySem.W.nsIn K mainGlobals "zip" = some none)
    {t_FIELD : Tok} (z_FIELD : PySem.W.nsIn K mainGlobals "FIELD" = some (some (.int 97 t_FIELD)))
    {t_EPOCHS : Tok} (z_EPOCHS : PySem.W.nsIn K mainGlobals "EPOCHS" = some (some (.int 64 t_EPOCHS)))
    {t_DEEDS : Tok} (z_DEEDS : PySem.W.nsIn K mainGlobals "DEEDS" = some (some (.int 256 t_DEEDS)))
    {t_PARTS : Tok} (z_PARTS : PySem.W.nsIn K mainGlobals "PARTS" = some (some (.int 64 t_PARTS)))
    {t_SYMBOLS : Tok} (z_SYMBOLS : PySem.W.nsIn K mainGlobals "SYMBOLS" = some (some (.int 97 t_SYMBOLS)))
    : ∃ fd : FuncData, (∀ (s : Shared) (u : Value), BindsTo s fd ⟨[u], []⟩ [("script", u)]) ∧ ∀ base : Heap, K.In base → base.Ns mainGlobals mg → FnG l.prog w K mg base 9 fa fd ["script"] (SpLaw K) := by
  have e := hfa.symm.trans (PySem.W.mg_of X G a48)
  cases e
  have B : Bt mg := ⟨PySem.W.mg_none_of X G z_abs, PySem.W.mg_none_of X G z_all, PySem.W.mg_none_of X G z_bool, PySem.W.mg_none_of X G z_dict, PySem.W.mg_none_of X G z_enumerate, PySem.W.mg_none_of X G z_int, PySem.W.mg_none_of X G z_isinstance, PySem.W.mg_none_of X G z_len, PySem.W.mg_none_of X G z_list, PySem.W.mg_none_of X G z_max, PySem.W.mg_none_of X G z_min, PySem.W.mg_none_of X G z_pow, PySem.W.mg_none_of X G z_range, PySem.W.mg_none_of X G z_repr, PySem.W.mg_none_of X G z_sorted, PySem.W.mg_none_of X G z_sum, PySem.W.mg_none_of X G z_tuple, PySem.W.mg_none_of X G z_zip, ⟨_, PySem.W.mg_of X G z_FIELD⟩, ⟨_, PySem.W.mg_of X G z_EPOCHS⟩, ⟨_, PySem.W.mg_of X G z_DEEDS⟩, ⟨_, PySem.W.mg_of X G z_PARTS⟩, ⟨_, PySem.W.mg_of X G z_SYMBOLS⟩⟩
  have T0 : Stands K mg "many_bodies" s_many_bodies ["bounds", "data"] := stands X G a0 l0 c0 k0 fun _ _ _ _ _ _ us hl => match us, hl with | [_, _], _ => rfl
  have T1 : Stands K mg "counts_to" s_counts_to ["bounds", "data"] := stands X G a1 l1 c1 k1 fun _ _ _ _ _ _ us hl => match us, hl with | [_, _], _ => rfl
  have T2 : Stands K mg "bits_of" s_bits_of ["bounds", "data"] := stands X G a2 l2 c2 k2 fun _ _ _ _ _ _ us hl => match us, hl with | [_, _], _ => rfl
  have T3 : Stands K mg "bits_in" s_bits_in ["many"] := stands X G a3 l3 c3 k3 fun _ _ _ _ _ _ us hl => match us, hl with | [_], _ => rfl
  have T4 : Stands K mg "is_integer" s_is_integer ["thing"] := stands X G a4 l4 c4 k4 fun _ _ _ _ _ _ us hl => match us, hl with | [_], _ => rfl
  have T5 : Stands K mg "is_tuple_of" s_is_tuple_of ["many", "thing"] := stands X G a5 l5 c5 k5 fun _ _ _ _ _ _ us hl => match us, hl with | [_, _], _ => rfl
  have T6 : Stands K mg "bases_of" s_bases_of ["form", "width"] := stands X G a6 l6 c6 k6 fun _ _ _ _ _ _ us hl => match us, hl with | [_, _], _ => rfl
  have T7 : Stands K mg "many_numbers" s_many_numbers ["form", "width"] := stands X G a7 l7 c7 k7 fun _ _ _ _ _ _ us hl => match us, hl with | [_, _], _ => rfl
  have T8 : Stands K mg "width_of" s_width_of ["form"] := stands X G a8 l8 c8 k8 fun _ _ _ _ _ _ us hl => match us, hl with | [_], _ => rfl
  have T9 : Stands K mg "is_digit" s_is_digit ["base", "thing"] := stands X G a9 l9 c9 k9 fun _ _ _ _ _ _ us hl => match us, hl with | [_, _], _ => rfl
  have T10 : Stands K mg "field_less" s_field_less ["one", "other"] := stands X G a10 l10 c10 k10 fun _ _ _ _ _ _ us hl => match us, hl with | [_, _], _ => rfl
  have T11 : Stands K mg "field_product" s_field_product ["one", "other"] := stands X G a11 l11 c11 k11 fun _ _ _ _ _ _ us hl => match us, hl with | [_, _], _ => rfl
  have T12 : Stands K mg "field_inverse" s_field_inverse ["one"] := stands X G a12 l12 c12 k12 fun _ _ _ _ _ _ us hl => match us, hl with | [_], _ => rfl
  have T13 : Stands K mg "weights_at" s_weights_at ["ats", "at"] := stands X G a13 l13 c13 k13 fun _ _ _ _ _ _ us hl => match us, hl with | [_, _], _ => rfl
  have T14 : Stands K mg "weighed" s_weighed ["weights", "values"] := stands X G a14 l14 c14 k14 fun _ _ _ _ _ _ us hl => match us, hl with | [_, _], _ => rfl
  have T15 : Stands K mg "is_word" s_is_word ["width", "thing"] := stands X G a15 l15 c15 k15 fun _ _ _ _ _ _ us hl => match us, hl with | [_, _], _ => rfl
  have T16 : Stands K mg "words_from" s_words_from ["known", "places", "many"] := stands X G a16 l16 c16 k16 fun _ _ _ _ _ _ us hl => match us, hl with | [_, _, _], _ => rfl
  have T17 : Stands K mg "spread" s_spread ["form", "words"] := stands X G a17 l17 c17 k17 fun _ _ _ _ _ _ us hl => match us, hl with | [_, _], _ => rfl
  have T18 : Stands K mg "is_group" s_is_group ["form", "thing"] := stands X G a18 l18 c18 k18 fun _ _ _ _ _ _ us hl => match us, hl with | [_, _], _ => rfl
  have T19 : Stands K mg "restored" s_restored ["form", "known"] := stands X G a19 l19 c19 k19 fun _ _ _ _ _ _ us hl => match us, hl with | [_, _], _ => rfl
  have T20 : Stands K mg "agree" s_agree ["form", "known"] := stands X G a20 l20 c20 k20 fun _ _ _ _ _ _ us hl => match us, hl with | [_, _], _ => rfl
  have T21 : Stands K mg "_law_bag" s_l_bag ["script"] := stands X G a21 l21 c21 k21 fun _ _ _ _ _ _ us hl => match us, hl with | [_], _ => rfl
  have T22 : Stands K mg "_law_take" s_l_take ["bag", "many"] := stands X G a22 l22 c22 k22 fun _ _ _ _ _ _ us hl => match us, hl with | [_, _], _ => rfl
  have T23 : Stands K mg "_law_some" s_l_some ["bag", "things"] := stands X G a23 l23 c23 k23 fun _ _ _ _ _ _ us hl => match us, hl with | [_, _], _ => rfl
  have T24 : Stands K mg "_law_mixed" s_l_mixed ["bag", "things"] := stands X G a24 l24 c24 k24 fun _ _ _ _ _ _ us hl => match us, hl with | [_, _], _ => rfl
  have T25 : Stands K mg "_law_alike" s_l_alike ["found", "due"] := stands X G a25 l25 c25 k25 fun _ _ _ _ _ _ us hl => match us, hl with | [_, _], _ => rfl
  have T26 : Stands K mg "_law_is_int" s_l_is_int ["thing"] := stands X G a26 l26 c26 k26 fun _ _ _ _ _ _ us hl => match us, hl with | [_], _ => rfl
  have T27 : Stands K mg "_law_common" s_l_common ["one", "other"] := stands X G a27 l27 c27 k27 fun _ _ _ _ _ _ us hl => match us, hl with | [_, _], _ => rfl
  have T28 : Stands K mg "_law_fraction" s_l_fraction ["n", "d"] := stands X G a28 l28 c28 k28 fun _ _ _ _ _ _ us hl => match us, hl with | [_, _], _ => rfl
  have T29 : Stands K mg "_law_added" s_l_added ["one", "other"] := stands X G a29 l29 c29 k29 fun _ _ _ _ _ _ us hl => match us, hl with | [_, _], _ => rfl
  have T30 : Stands K mg "_law_times" s_l_times ["one", "other"] := stands X G a30 l30 c30 k30 fun _ _ _ _ _ _ us hl => match us, hl with | [_, _], _ => rfl
  have T31 : Stands K mg "_law_is_less" s_l_is_less ["one", "other"] := stands X G a31 l31 c31 k31 fun _ _ _ _ _ _ us hl => match us, hl with | [_, _], _ => rfl
  have T32 : Stands K mg "_law_phi" s_l_phi ["bounds", "t"] := stands X G a32 l32 c32 k32 fun _ _ _ _ _ _ us hl => match us, hl with | [_, _], _ => rfl
  have T33 : Stands K mg "_law_least" s_l_least ["some"] := stands X G a33 l33 c33 k33 fun _ _ _ _ _ _ us hl => match us, hl with | [_], _ => rfl
  have T34 : Stands K mg "_law_pull" s_l_pull ["bounds"] := stands X G a34 l34 c34 k34 fun _ _ _ _ _ _ us hl => match us, hl with | [_], _ => rfl
  have T35 : Stands K mg "_law_needed" s_l_needed ["bounds", "run"] := stands X G a35 l35 c35 k35 fun _ _ _ _ _ _ us hl => match us, hl with | [_, _], _ => rfl
  have T36 : Stands K mg "_law_size" s_l_size ["bag"] := stands X G a36 l36 c36 k36 fun _ _ _ _ _ _ us hl => match us, hl with | [_], _ => rfl
  have T37 : Stands K mg "_law_counts" s_l_counts ["bounds", "data"] := stands X G a37 l37 c37 k37 fun _ _ _ _ _ _ us hl => match us, hl with | [_, _], _ => rfl
  have T38 : Stands K mg "_law_least_watchful" s_l_least_watchful ["drift", "shift", "lo", "most", "lead"] := stands X G a38 l38 c38 k38 fun _ _ _ _ _ _ us hl => match us, hl with | [_, _, _, _, _], _ => rfl
  have T39 : Stands K mg "_law_width" s_l_width ["form"] := stands X G a39 l39 c39 k39 fun _ _ _ _ _ _ us hl => match us, hl with | [_], _ => rfl
  have T40 : Stands K mg "_law_roomy" s_l_roomy ["bag"] := stands X G a40 l40 c40 k40 fun _ _ _ _ _ _ us hl => match us, hl with | [_], _ => rfl
  have T41 : Stands K mg "_law_value" s_l_value ["polynomial", "at"] := stands X G a41 l41 c41 k41 fun _ _ _ _ _ _ us hl => match us, hl with | [_, _], _ => rfl
  have T42 : Stands K mg "_law_group" s_l_group ["bag", "form"] := stands X G a42 l42 c42 k42 fun _ _ _ _ _ _ us hl => match us, hl with | [_, _], _ => rfl
  have T43 : Stands K mg "_law_at" s_l_at ["points", "at"] := stands X G a43 l43 c43 k43 fun _ _ _ _ _ _ us hl => match us, hl with | [_, _], _ => rfl
  have T44 : Stands K mg "_law_near_group" s_l_near_group ["bag", "group"] := stands X G a44 l44 c44 k44 fun _ _ _ _ _ _ us hl => match us, hl with | [_, _], _ => rfl
  have T45 : Stands K mg "_law_is_group" s_l_is_group ["form", "thing"] := stands X G a45 l45 c45 k45 fun _ _ _ _ _ _ us hl => match us, hl with | [_, _], _ => rfl
  have T46 : Stands K mg "_law_do_agree" s_l_do_agree ["form", "known"] := stands X G a46 l46 c46 k46 fun _ _ _ _ _ _ us hl => match us, hl with | [_, _], _ => rfl
  have T47 : Stands K mg "_law_due_restored" s_l_due_restored ["form", "known"] := stands X G a47 l47 c47 k47 fun _ _ _ _ _ _ us hl => match us, hl with | [_, _], _ => rfl
  refine ⟨PySem.W.fnOf "law" "law" (defArgs s_law) (defBody s_law) (defScope s_law) .none kV48 dc48 pm48 an48 cd48 ct48, fun s v => .of_eq rfl, fun base _ _ => ?_⟩
  have D21 := ok_bag (P := l.prog) (w := w) (base := base) B T21
  have D22 := ok_take (P := l.prog) (w := w) (base := base) B T22
  have D23 := ok_some (P := l.prog) (w := w) (base := base) B D22 T23
  have D25 := ok_alike (P := l.prog) (w := w) (base := base) B T25
  have D1 := ok_counts_to (P := l.prog) (w := w) (base := base) B T1
  have D27 := ok_l_common (P := l.prog) (w := w) (base := base) B T27
  have D28 := ok_l_fraction (P := l.prog) (w := w) (base := base) B D27 T28
  have D36 := ok_l_size (P := l.prog) (w := w) (base := base) B D23 D28 T36
  have D29 := ok_l_added (P := l.prog) (w := w) (base := base) B D28 T29
  have D30 := ok_l_times (P := l.prog) (w := w) (base := base) B D28 T30
  have D31 := ok_l_is_less (P := l.prog) (w := w) (base := base) B T31
  have D32 := ok_l_phi (P := l.prog) (w := w) (base := base) B D29 D28 D30 T32
  have D33 := ok_l_least (P := l.prog) (w := w) (base := base) B D31 T33
  have D34 := ok_l_pull (P := l.prog) (w := w) (base := base) B D33 D32 D31 T34
  have D35 := ok_l_needed (P := l.prog) (w := w) (base := base) B D30 D29 D34 T35
  have D38 := ok_l_least_watchful (P := l.prog) (w := w) (base := base) B D35 T38
  have D0 := ok_many_bodies (P := l.prog) (w := w) (base := base) B D1 T0
  have D3 := ok_bits_in (P := l.prog) (w := w) (base := base) B T3
  have D2 := ok_bits_of (P := l.prog) (w := w) (base := base) B D0 D3 T2
  have D37 := ok_l_counts (P := l.prog) (w := w) (base := base) B T37
  have D6 := ok_bases_of (P := l.prog) (w := w) (base := base) B T6
  have D7 := ok_many_numbers (P := l.prog) (w := w) (base := base) B D6 T7
  have D8 := ok_width_of (P := l.prog) (w := w) (base := base) B D2 D7 T8
  have D39 := ok_l_width (P := l.prog) (w := w) (base := base) B D37 T39
  have D40 := ok_l_roomy (P := l.prog) (w := w) (base := base) B D23 D36 D38 D39 D22 T40
  have D10 := ok_field_less (P := l.prog) (w := w) (base := base) B T10
  have D11 := ok_field_product (P := l.prog) (w := w) (base := base) B T11
  have D12 := ok_field_inverse (P := l.prog) (w := w) (base := base) B T12
  have D13 := ok_weights_at (P := l.prog) (w := w) (base := base) B D10 D11 D12 T13
  have D14 := ok_weighed (P := l.prog) (w := w) (base := base) B T14
  have D24 := ok_l_mixed (P := l.prog) (w := w) (base := base) B D22 T24
  have D41 := ok_l_value (P := l.prog) (w := w) (base := base) B T41
  have D16 := ok_words_from (P := l.prog) (w := w) (base := base) B D13 D14 T16
  have D4 := ok_is_integer (P := l.prog) (w := w) (base := base) B T4
  have D26 := ok_l_is_int (P := l.prog) (w := w) (base := base) B T26
  have D5 := ok_is_tuple_of (P := l.prog) (w := w) (base := base) B T5
  have D9 := ok_is_digit (P := l.prog) (w := w) (base := base) B D4 T9
  have D15 := ok_is_word (P := l.prog) (w := w) (base := base) B D5 D9 T15
  have D17 := ok_spread (P := l.prog) (w := w) (base := base) B D16 T17
  have D19 := ok_restored (P := l.prog) (w := w) (base := base) B D16 T19
  have D20 := ok_agree (P := l.prog) (w := w) (base := base) B D16 T20
  have D18 := ok_is_group (P := l.prog) (w := w) (base := base) B D8 D17 D5 D15 T18
  have D42 := ok_l_group (P := l.prog) (w := w) (base := base) B D39 D23 D41 D22 T42
  have D43 := ok_l_at (P := l.prog) (w := w) (base := base) B T43
  have D46 := ok_l_do_agree (P := l.prog) (w := w) (base := base) B D39 D43 T46
  have D47 := ok_l_due_restored (P := l.prog) (w := w) (base := base) B D39 D43 T47
  have D45 := ok_l_is_group (P := l.prog) (w := w) (base := base) B D46 D39 D26 T45
  have D44 := ok_l_near_group (P := l.prog) (w := w) (base := base) B D22 D23 T44
  exact ok_law B D21 D40 D42 D25 D44 D23 D47 D46 D17 D18 D45 D22 D19 D20 D24 (fun_mk l48 c48 k48)
end K53
open PySem PySem.W PyProof.Rows
set_option maxHeartbeats 0 in
theorem PySem.Challenge.cw_flutterheld_k53_groups_judged_holds : PySem.Challenge.rw_flutterheld_k53_groups_judged.Holds := by
  w_on; o_law; k_head; (case hw => w_witness2)
  k_fill
  refine Yw.walkG (l := PySem.Challenge.rw_flutterheld_k53_groups_judged) (n := 63) (k := 9) (x := "script") (sp := fun K => Yw.SpLaw K) rfl (by decide) rfl ⟨rfl, by decide, by decide⟩ (fun w h Y => PySem.W.kIn_of Y) ?F (fun K H a ns hl hS => ⟨a, ns, rfl, hS, hl, fun _ => rfl⟩)
  case F =>
    intro w mg fa h KX G hmg
    refine' K53.all_mk KX G hmg ?a0 ?l0 ?c0 ?k0 ?a1 ?l1 ?c1 ?k1 ?a2 ?l2 ?c2 ?k2 ?a3 ?l3 ?c3 ?k3 ?a4 ?l4 ?c4 ?k4 ?a5 ?l5 ?c5 ?k5 ?a6 ?l6 ?c6 ?k6 ?a7 ?l7 ?c7 ?k7 ?a8 ?l8 ?c8 ?k8 ?a9 ?l9 ?c9 ?k9 ?a10 ?l10 ?c10 ?k10 ?a11 ?l11 ?c11 ?k11 ?a12 ?l12 ?c12 ?k12 ?a13 ?l13 ?c13 ?k13 ?a14 ?l14 ?c14 ?k14 ?a15 ?l15 ?c15 ?k15 ?a16 ?l16 ?c16 ?k16 ?a17 ?l17 ?c17 ?k17 ?a18 ?l18 ?c18 ?k18 ?a19 ?l19 ?c19 ?k19 ?a20 ?l20 ?c20 ?k20 ?a21 ?l21 ?c21 ?k21 ?a22 ?l22 ?c22 ?k22 ?a23 ?l23 ?c23 ?k23 ?a24 ?l24 ?c24 ?k24 ?a25 ?l25 ?c25 ?k25 ?a26 ?l26 ?c26 ?k26 ?a27 ?l27 ?c27 ?k27 ?a28 ?l28 ?c28 ?k28 ?a29 ?l29 ?c29 ?k29 ?a30 ?l30 ?c30 ?k30 ?a31 ?l31 ?c31 ?k31 ?a32 ?l32 ?c32 ?k32 ?a33 ?l33 ?c33 ?k33 ?a34 ?l34 ?c34 ?k34 ?a35 ?l35 ?c35 ?k35 ?a36 ?l36 ?c36 ?k36 ?a37 ?l37 ?c37 ?k37 ?a38 ?l38 ?c38 ?k38 ?a39 ?l39 ?c39 ?k39 ?a40 ?l40 ?c40 ?k40 ?a41 ?l41 ?c41 ?k41 ?a42 ?l42 ?c42 ?k42 ?a43 ?l43 ?c43 ?k43 ?a44 ?l44 ?c44 ?k44 ?a45 ?l45 ?c45 ?k45 ?a46 ?l46 ?c46 ?k46 ?a47 ?l47 ?c47 ?k47 ?a48 ?l48 ?c48 ?k48 ?z_abs ?z_all ?z_bool ?z_dict ?z_enumerate ?z_int ?z_isinstance ?z_len ?z_list ?z_max ?z_min ?z_pow ?z_range ?z_repr ?z_sorted ?z_sum ?z_tuple ?z_zip ?z_FIELD ?z_EPOCHS ?z_DEEDS ?z_PARTS ?z_SYMBOLS
    (case a0 => k_is); (case l0 => k_is); (case c0 => k_is); (case k0 => k_is); (case a1 => k_is); (case l1 => k_is); (case c1 => k_is); (case k1 => k_is); (case a2 => k_is); (case l2 => k_is); (case c2 => k_is); (case k2 => k_is); (case a3 => k_is); (case l3 => k_is); (case c3 => k_is); (case k3 => k_is); (case a4 => k_is); (case l4 => k_is); (case c4 => k_is); (case k4 => k_is); (case a5 => k_is); (case l5 => k_is); (case c5 => k_is); (case k5 => k_is); (case a6 => k_is); (case l6 => k_is); (case c6 => k_is); (case k6 => k_is); (case a7 => k_is); (case l7 => k_is); (case c7 => k_is); (case k7 => k_is); (case a8 => k_is); (case l8 => k_is); (case c8 => k_is); (case k8 => k_is); (case a9 => k_is); (case l9 => k_is); (case c9 => k_is); (case k9 => k_is); (case a10 => k_is); (case l10 => k_is); (case c10 => k_is); (case k10 => k_is); (case a11 => k_is); (case l11 => k_is); (case c11 => k_is); (case k11 => k_is); (case a12 => k_is); (case l12 => k_is); (case c12 => k_is); (case k12 => k_is); (case a13 => k_is); (case l13 => k_is); (case c13 => k_is); (case k13 => k_is); (case a14 => k_is); (case l14 => k_is); (case c14 => k_is); (case k14 => k_is); (case a15 => k_is); (case l15 => k_is); (case c15 => k_is); (case k15 => k_is); (case a16 => k_is); (case l16 => k_is); (case c16 => k_is); (case k16 => k_is); (case a17 => k_is); (case l17 => k_is); (case c17 => k_is); (case k17 => k_is); (case a18 => k_is); (case l18 => k_is); (case c18 => k_is); (case k18 => k_is); (case a19 => k_is); (case l19 => k_is); (case c19 => k_is); (case k19 => k_is); (case a20 => k_is); (case l20 => k_is); (case c20 => k_is); (case k20 => k_is); (case a21 => k_is); (case l21 => k_is); (case c21 => k_is); (case k21 => k_is); (case a22 => k_is); (case l22 => k_is); (case c22 => k_is); (case k22 => k_is); (case a23 => k_is); (case l23 => k_is); (case c23 => k_is); (case k23 => k_is); (case a24 => k_is); (case l24 => k_is); (case c24 => k_is); (case k24 => k_is); (case a25 => k_is); (case l25 => k_is); (case c25 => k_is); (case k25 => k_is); (case a26 => k_is); (case l26 => k_is); (case c26 => k_is); (case k26 => k_is); (case a27 => k_is); (case l27 => k_is); (case c27 => k_is); (case k27 => k_is); (case a28 => k_is); (case l28 => k_is); (case c28 => k_is); (case k28 => k_is); (case a29 => k_is); (case l29 => k_is); (case c29 => k_is); (case k29 => k_is); (case a30 => k_is); (case l30 => k_is); (case c30 => k_is); (case k30 => k_is); (case a31 => k_is); (case l31 => k_is); (case c31 => k_is); (case k31 => k_is); (case a32 => k_is); (case l32 => k_is); (case c32 => k_is); (case k32 => k_is); (case a33 => k_is); (case l33 => k_is); (case c33 => k_is); (case k33 => k_is); (case a34 => k_is); (case l34 => k_is); (case c34 => k_is); (case k34 => k_is); (case a35 => k_is); (case l35 => k_is); (case c35 => k_is); (case k35 => k_is); (case a36 => k_is); (case l36 => k_is); (case c36 => k_is); (case k36 => k_is); (case a37 => k_is); (case l37 => k_is); (case c37 => k_is); (case k37 => k_is); (case a38 => k_is); (case l38 => k_is); (case c38 => k_is); (case k38 => k_is); (case a39 => k_is); (case l39 => k_is); (case c39 => k_is); (case k39 => k_is); (case a40 => k_is); (case l40 => k_is); (case c40 => k_is); (case k40 => k_is); (case a41 => k_is); (case l41 => k_is); (case c41 => k_is); (case k41 => k_is); (case a42 => k_is); (case l42 => k_is); (case c42 => k_is); (case k42 => k_is); (case a43 => k_is); (case l43 => k_is); (case c43 => k_is); (case k43 => k_is); (case a44 => k_is); (case l44 => k_is); (case c44 => k_is); (case k44 => k_is); (case a45 => k_is); (case l45 => k_is); (case c45 => k_is); (case k45 => k_is); (case a46 => k_is); (case l46 => k_is); (case c46 => k_is); (case k46 => k_is); (case a47 => k_is); (case l47 => k_is); (case c47 => k_is); (case k47 => k_is); (case a48 => k_is); (case l48 => k_is); (case c48 => k_is); (case k48 => k_is); (case z_abs => k_is); (case z_all => k_is); (case z_bool => k_is); (case z_dict => k_is); (case z_enumerate => k_is); (case z_int => k_is); (case z_isinstance => k_is); (case z_len => k_is); (case z_list => k_is); (case z_max => k_is); (case z_min => k_is); (case z_pow => k_is); (case z_range => k_is); (case z_repr => k_is); (case z_sorted => k_is); (case z_sum => k_is); (case z_tuple => k_is); (case z_zip => k_is); (case z_FIELD => k_is); (case z_EPOCHS => k_is); (case z_DEEDS => k_is); (case z_PARTS => k_is); (case z_SYMBOLS => k_is)
