import PyProof.Rows.All
import Wide.All
import OpenK.AllK
import Wide.FinOn
import HandS.ForMost
import PyProof.ReprReads
import HandS.Lambda
import HandS.Zip
import HandS.TupAny
import HandS.TupMul
import HandS.Wide
import HandS.Gcd
import HandS.IsInst
import HandS.SortInts
import PyProof.ReprRoads
import HandS.More
import HandS.Style
import KE.KRevSl
import KE.KTupSum
import HandS.TupSets
import HandS.Iter
import HandS.CallLocal
import KE.GoesMore
import HandS.Conv
import HandS.ExcOwn
import HandS.HotCalls
import HandS.ExcInit
import HandS.ExcField
import HandS.Defaults
import HandS.RaiseMore
import PyProof.Rows.FactsB_pow
import PyProof.Rows.RuleDivmod
import PyProof.TableTree
import PyProof.FactsTree
import HandS.Rev
import KE.GoesZip
import HandS.TupLe
import HandS.WideBits
import HandS.ExcIs
import HandS.RevRange
import PyProof.SeqIndex
import HandS.Dict
import KE.KMathG
import Flt.RightSqrt
import KE.KUnpackStar
import PyProof.MakeMany
import KE.DataCmp
import HandS.SortKw
import PyProof.MinMaxWalk
import PyProof.WalkInts
import HandS.Deep
import HandS.EndTab
import PyProof.StrLawsRepr
import KE.GoesEnum
import PySem.Challenge.RW_flutterheld_k34_what_is_heard_of_reels
set_option Elab.async false
set_option linter.all false
set_option maxRecDepth 100000
set_option maxHeartbeats 4000000
/-! Own layer A: a def's promise where no repr is under way (guards known empty). -/
namespace Yw
open PySem PySem.Spec PyProof.Rows L2

/-- a promise kept by every call that is made while no guard stands -/
structure FnG (P : Program) (w : World) (K : PySem.W.Frag) (mg : Str → Option Value) (base : Heap)
    (k : Nat) (f : Addr) (fd : FuncData) (ps : List Str) (sp : Sp) : Prop where
  cnt : ∀ vs H Q E, sp vs H Q E → vs.length = ps.length
  go : ∀ (A : Around) (outer : List Env) (s : Shared) (H : Hp) (args : Args) (us : List Value) (vs : List V) (Q : VK),
    A.guards = some [] → Room k A → Env0 P w K mg base A outer s H → BindsTo s fd args (ps.zip us) →
    Vals vs us → sp vs H Q E0 → codeAny (model P w) A (.call (.ref f) args) (CR CX0 outer P w H s Q E0) s

section
variable {P : Program} {w : World} {K : PySem.W.Frag} {mg : Str → Option Value} {base : Heap}

theorem deep_g {A : Around} {e : Env} (h : A.guards = some []) : (A.deeper e).guards = some [] := h

/-- a def by its body -/
theorem fnG {x qual : Str} {st : Stmt} {f : Addr} {fd : FuncData} {N ps : List Str} {k : Nat} {sp : Sp}
    (F : Fun K x qual st f fd) (S : FnScope N ps (defScope st)) (cnt : ∀ vs H Q E, sp vs H Q E → vs.length = ps.length)
    (body : ∀ (cdv : Value) (A : Around) (outer : List Env) (s : Shared) (H : Hp) (E : XK),
      (A.deeper (envOfC qual (defScope st) s.heap.objs.size f cdv)).guards = some [] →
      Room k (A.deeper (envOfC qual (defScope st) s.heap.objs.size f cdv)) →
      ∃ t, PSs (cxOf CX0 P w K mg base N qual (defScope st) f cdv A outer s H E).nox (defBody st) t ∧
        ∀ (vs : List V) (Q : VK), sp vs H Q E → t { nx := fun _ H' => Q .non H', rt := Q } (start N vs) H) :
    FnG P w K mg base (k + 1) f fd ps sp := by
  refine ⟨cnt, fun A outer s H args us vs Q gA hr e0 hb rv hsp => ?_⟩
  obtain ⟨oc, od, kV, doc, pm, an, cdv, ct, osl, hfd, lk, hcd⟩ := F.ex
  subst hfd
  have KX : K.In s.heap := e0.mod.kin.keeps fun b o e => (e0.bs b o e).1
  have lim : s.heap.NoLimit := e0.mod.nolimit.keeps fun b o e => (e0.bs b o e).1
  refine codeAny_call_function hr.depth (KX _ _ lk) rfl S.co S.gen rfl (PySem.W.codeRec_of KX hcd) (hb _ _ _ _ ?_)
  refine wpAny_newFunctionEnv_cells S.kind (fun y hy => ?_) fun env he s1 hx => ?_
  · obtain ⟨n, v⟩ := y
    cases S.par n (List.of_mem_zip hy).1 with
    | inl q => exact .inl q
    | inr q => exact .inr ⟨q, PySem.W.cellsFrom_some _ _ _ (.inl q)⟩
  · subst he
    refine ⟨lim.keeps hx.toInCall.keep, codeAny_func ?_⟩
    obtain ⟨t, ht, hq⟩ := body cdv A outer s H E0 (deep_g gA) (hr.deeper _)
    have I := inv_start (CX := CX0) (E := E0) S hr.hd e0 (cnt _ _ _ _ hsp) rv hx
    refine wpAny_mono (ht.nox.run [] s1 (start N vs) H _ I (hq vs Q hsp)) (fun fl s' z => ?_) fun _ _ z => z
    cases fl with
    | ret u =>
      obtain ⟨v, σ2, H2, J, r2, q⟩ := z
      exact ⟨v, H2, J.os, J.bare, J.base, J.hok, r2, q⟩
    | next =>
      obtain ⟨σ2, H2, J, q⟩ := z
      exact ⟨.non, H2, J.os, J.bare, J.base, J.hok, rfl, q⟩
    | brk => exact z.elim fun _ z => z.elim fun _ z => z.2.elim
    | cont => exact z.elim fun _ z => z.elim fun _ z => z.2.elim
end

section
variable {X : Cx} {k : Nat} {f : Addr} {fd : FuncData} {ps : List Str} {sp : Sp} {x : Str} {p pos : Pos} {e : Expr} {es : List Expr} {t : TA}
theorem goG {pins : List (Addr × Obj)} {σ : L2.St} {H : Hp} {s : Shared} {Q : VK} {us : List Value} {vs : List V}
    (F : FnG X.prog X.w X.K X.mg X.base k f fd ps sp) (g : X.A.guards = some []) (hr : Room k X.A) (hb : Binds X.K fd ps [])
    (I : Inv X pins σ H s) (r : Vals vs us) (h : sp vs H Q E0) :
    wpAny (model X.prog X.w) X.A (call (.ref f) us) (EP X pins σ Q) X.xe s := by
  have n := F.cnt _ _ _ _ h
  have hl : (us ++ []).length = ps.length := by rw [List.append_nil, ← r.length, n]
  have b := hb s us I.kIn hl
  rw [List.append_nil] at b
  refine wpAny_call (codeAny_mono (F.go X.A X.stack s H ⟨us, []⟩ us vs Q g hr I.env0 b r h) fun z s' q => ?_)
  cases z with
  | error e => exact q.elim
  | ok fl =>
    cases fl with
    | ret u => exact I.after q
    | next => exact q.elim
    | brk => exact q.elim
    | cont => exact q.elim

/-- f(e, ..) of a def of the text -/
theorem peG (F : FnG X.prog X.w X.K X.mg X.base k f fd ps sp) (g : X.A.guards = some []) (hr : Room k X.A) (hg : Gl X x)
    (hm : X.mg x = some (.ref f)) (hk : PySem.W.keepIn X.K (.ref f) = true) (hb : Binds X.K fd ps []) (ha : PA X (e :: es) t)
    (hdb : (x == ("__debug__" : Str)) = false := by decide)
    (he : starEach (e :: es) X.env = (false, eval e X.env) :: starEach es X.env := by rfl)
    (hpl : (backTo pos (starEach es X.env)).any (·.1) = false := by rfl) :
    PE X (.Call (.Name x p) (e :: es) [] pos) (fun σ H Q => t σ H fun vs H1 => sp vs H1 Q E0) := by
  refine ⟨fun pins s σ H Q I h => wpAny_Call_Name_kw (ld_glob I hg hm ?_ hdb)⟩
  refine PySem.W.callWith_K (h₀ := X.base) I.ok.mod.kin hk (thn (ha.run pos pins s σ H _ I h) ?_) he hpl
  intro us s1 ⟨vs, H1, I1, r, q⟩
  exact ⟨I1.kIn, goG F g hr hb I1 r q⟩
end

/-! ### the law's own call -/
/-- the abstract heap that holds nothing but the script (or nothing, where the top made it) -/
def oneH (a : Addr) (o : Obj) (xs : List V) : Hp := fun b => if b = a then some (.frz o (.lst xs)) else none
theorem oneH_at {a : Addr} {o : Obj} {xs : List V} : oneH a o xs a = some (.frz o (.lst xs)) := if_pos rfl
theorem oneH_no {a b : Addr} {o : Obj} {xs : List V} (h : b ≠ a) : oneH a o xs b = none := if_neg h
/-- what is tracked is the script alone, and it is no object of K -/
structure Lone (K : PySem.W.Frag) (a : Addr) (H : Hp) : Prop where
  only : ∀ b u, H b = some u → b = a ∧ K.lookup a = none ∧ ∃ o xs, u = HO.frz o (.lst xs)
theorem Lone.free {K : PySem.W.Frag} {a b : Addr} {H : Hp} (L : Lone K a H) (h : b ≠ a ∨ K.lookup a ≠ none) : H b = none := by
  cases q : H b with
  | none => rfl
  | some u =>
    obtain ⟨e, n, _⟩ := L.only b u q
    rcases h with h | h
    · exact absurd e h
    · exact absurd n h
section
variable {P : Program} {w : World} {K : PySem.W.Frag} {mg mb : Str → Option Value} {k : Nat} {fa a : Addr} {fd : FuncData} {x : Str} {sp : Sp} {s : Shared} {vs : List Value} {ns : List Int}
/-- from one abstract heap -/
theorem lawAt {H : Hp} (L : Lone K a H) (hok : HOk P w H s.heap) (KX : K.In s.heap) (hns : s.heap.Ns mainGlobals mg) (hb : s.heap.Ns builtinsNs mb)
    (hbb : ∀ x : Str, x ≠ "__name__" → mb x = bootBuiltins x) (hlim : s.heap.NoLimit) (hg : s.gens = #[])
    (ha : s.heap.get? a = some { cls := .type "list", data := .seq vs.toArray }) (hr : Room k callerA)
    (F : ∀ base : Heap, K.In base → base.Ns mainGlobals mg → FnG P w K mg base k fa fd [x] sp)
    (hbind : ∀ (s : Shared) (u : Value), BindsTo s fd ⟨[u], []⟩ [(x, u)]) (hsp : sp [.ref a] H (fun v _ => v = .bl true) E0) :
    codeAny (model P w) callerA (.call (.ref fa) ⟨[.ref a], []⟩)
      (fun r s' => r = .ok (.ret (.bool true)) ∧ OldK s.heap s'.heap ∧ s'.os = s.os ∧ AllBare s'.gens) s := by
  -- the fixed part: all but what is tracked
  have keep : ∀ {b : Addr} {o : Obj}, s.heap.get? b = some o → H b = none → (hidT s.heap H).get? b = some o := fun e n => hidT_get e n
  have dicts : ∀ {b : Addr} {m : Str → Option Value}, s.heap.Ns b m → (hidT s.heap H).Ns b m := fun {b m} ⟨o, es, ep, e, d, r⟩ => by
    refine ⟨o, es, ep, keep e ?_, d, r⟩
    by_cases hba : b = a
    · subst hba
      rw [ha] at e
      cases e
      exact nomatch (show Data.seq vs.toArray _ = Data.dict es ep from d)
    · exact L.free (.inl hba)
  have kin : K.In (hidT s.heap H) := fun b o e => keep (KX b o e) (by
    by_cases hba : b = a
    · subst hba
      exact L.free (.inr (by rw [e]; exact fun z => nomatch z))
    · exact L.free (.inl hba))
  have md : Mod K mg (hidT s.heap H) := ⟨kin, dicts hns, ⟨mb, dicts hb, hbb⟩, hlim.elim fun mc z => ⟨mc, dicts z.1, z.2⟩⟩
  have e0 : Env0 P w K mg (hidT s.heap H) callerA [] s H :=
    ⟨rfl, md, fun b o e => of_hidT e, Nat.le_of_eq (hidT_size _ _), trivial, (fun b q => absurd (show b ∈ ([] : List Addr) from q) List.not_mem_nil), hok, .of_eq hg⟩
  refine codeAny_mono ((F _ kin (dicts hns)).go callerA [] s H ⟨[.ref a], []⟩ [.ref a] [.ref a] _ rfl hr e0 (hbind s (.ref a)) (.cons rfl .nil) hsp) fun r s' z => ?_
  cases r with
  | error e => exact z.elim
  | ok fl =>
    cases fl with
    | next => exact z.elim
    | brk => exact z.elim
    | cont => exact z.elim
    | ret u =>
      obtain ⟨v, H2, os, bare, un, hok2, rv, q⟩ := z
      subst q
      obtain rfl : u = Value.bool true := rv
      refine ⟨rfl, OldK.of_keep fun b o e => ?_, os, bare⟩
      cases q : H b with
      | none => exact un.keep b o e q (fun z => absurd (show b ∈ ([] : List Addr) from z) List.not_mem_nil) (fun z => absurd (show b ∈ ([] : List Addr) from z) List.not_mem_nil)
      | some y =>
        obtain ⟨_, _, ob, xs, hy⟩ := L.only b y q
        subst hy
        have o1 := (hok b _ q).1
        rw [e] at o1
        cases o1
        exact (hok2 b _ (un.frzs b _ _ q)).1
theorem lawG (KX : K.In s.heap) (hns : s.heap.Ns mainGlobals mg) (hb : s.heap.Ns builtinsNs mb)
    (hbb : ∀ x : Str, x ≠ "__name__" → mb x = bootBuiltins x) (hlim : s.heap.NoLimit) (hg : s.gens = #[])
    (ha : s.heap.get? a = some { cls := .type "list", data := .seq vs.toArray }) (hi : IntsAre vs ns) (hl : ns.length ≤ sizeLine) (hr : Room k callerA)
    (F : ∀ base : Heap, K.In base → base.Ns mainGlobals mg → FnG P w K mg base k fa fd [x] sp)
    (hbind : ∀ (s : Shared) (u : Value), BindsTo s fd ⟨[u], []⟩ [(x, u)])
    (hsp : ∀ H : Hp, SqL K H a (ns.map V.int) → sp [.ref a] H (fun v _ => v = .bl true) E0) :
    codeAny (model P w) callerA (.call (.ref fa) ⟨[.ref a], []⟩)
      (fun r s' => r = .ok (.ret (.bool true)) ∧ OldK s.heap s'.heap ∧ s'.os = s.os ∧ AllBare s'.gens) s := by
  have rv := vals_ints hi
  cases hk : K.lookup a with
  | some o =>
    have e := KX a o hk
    rw [ha] at e
    cases e
    exact lawAt (H := fun _ => none) ⟨fun _ _ z => nomatch z⟩ (fun _ _ z => nomatch z) KX hns hb hbb hlim hg ha hr F hbind
      (hsp _ (.inr ⟨_, _, _, hk, rfl, rfl, rfl, by rw [List.size_toArray, hi.length]; exact hl, rv⟩))
  | none =>
    refine lawAt (H := oneH a { cls := .type "list", data := .seq vs.toArray } (ns.map V.int)) ⟨fun b u z => ?_⟩ (fun b u z => ?_) KX hns hb hbb hlim hg ha hr F hbind (hsp _ (.inl (.inr ⟨_, oneH_at⟩)))
    all_goals
      by_cases hba : b = a
      · subst hba
        rw [oneH_at] at z
        cases z
        first
          | exact ⟨rfl, hk, _, _, rfl⟩
          | exact ⟨ha, by rw [List.length_map]; exact hl, vs, _, rv, ha⟩
      · rw [oneH_no hba] at z
        cases z
end
/-- the row from the promise of law -/
theorem walkG {l : PySem.W.OpenLaw} {n k : Nat} {q : Program} {loose : List Str} {XP : (Str → Option Value) → Heap → Prop} {YP : World → Heap → Prop} {d : DefRec} {K : Params → PySem.W.Frag} {sp : PySem.W.Frag → Sp} {x : Str}
    (hn : l.most = some n) (hn2 : n ≤ sizeLine) (hdf : d.params.defaults = []) (hr : Room k callerA) (hY : ∀ (w : World) (h : Heap), YP w h → (K w.params).In h)
    (F : ∀ (w : World) (mg : Str → Option Value) (fa : Addr) (h : Heap), (K w.params).In h → h.Ns mainGlobals mg → mg d.name = some (.ref fa) →
      ∃ fd : FuncData, (∀ (s : Shared) (u : Value), BindsTo s fd ⟨[u], []⟩ [(x, u)]) ∧
        ∀ base : Heap, (K w.params).In base → base.Ns mainGlobals mg → FnG l.prog w (K w.params) mg base k fa fd [x] (sp (K w.params)))
    (hsp : ∀ (K : PySem.W.Frag) (H : Hp) (a : Addr) (ns : List Int), ns.length ≤ n → SqL K H a (ns.map V.int) → sp K [.ref a] H (fun v _ => v = .bl true) E0) :
    PySem.W.WalkO q loose XP YP l.row.toRowW d [] (fun f vs => PySem.call f vs) := by
  refine Att.attach_call hn hdf fun w s0 s1 mg mb fa o pm cd doc a vs ns G Y ho hd hcd hmg hobj hints hlen hg => ?_
  have KX := hY w _ Y
  obtain ⟨fd, hb, hF⟩ := F w mg fa _ KX G.T.g hmg
  exact lawG KX G.T.g G.T.b G.T.builtins G.T.nolimit hg hobj hints (Nat.le_trans hlen hn2) hr hF hb fun H hS => hsp _ H a ns hlen hS
end Yw

set_option Elab.async false
set_option linter.all false
set_option maxRecDepth 100000
set_option maxHeartbeats 4000000
/-! Own layer B: values by what they say (data), what may change apart. -/
namespace Yw
open PySem PySem.Spec PyProof.Rows L2

def Ex (H H' : Hp) : Prop := ∀ a o, H a = some o → H' a = some o
theorem Ex.rfl' (H : Hp) : Ex H H := fun _ _ h => h
theorem Ex.tr {H H1 H2 : Hp} (a : Ex H H1) (b : Ex H1 H2) : Ex H H2 := fun x o h => b x o (a x o h)
theorem Ex.add {G : Hp} {p : Addr} {o : HO} (h : G p = none) : Ex G (upd G p o) := fun a u e => by
  rw [upd_ne (ne_of_none e h)]
  exact e
theorem Ex.l {K : PySem.W.Frag} {H H' : Hp} {a : Addr} {xs : List V} (e : Ex H H') (h : SqL K H a xs) : SqL K H' a xs := Same.seq e h
theorem Ex.t {K : PySem.W.Frag} {H H' : Hp} {a : Addr} {xs : List V} (e : Ex H H') (h : SqT K H a xs) : SqT K H' a xs := by
  rcases h with (h | ⟨o, h⟩) | h
  · exact .inl (.inl (e _ _ h))
  · exact .inl (.inr ⟨o, e _ _ h⟩)
  · exact .inr h

/-- a key as data -/
def keyDt : Key → PyData
  | .inl i => .int i
  | .inr x => .str x
/-! a value says the data d, by what stands in G -/
mutual
inductive Rp (K : PySem.W.Frag) (G : Hp) : V → PyData → Prop
  | non : Rp K G .non .none
  | bl (b : Bool) : Rp K G (.bl b) (.bool b)
  | int (i : Int) : Rp K G (.int i) (.int i)
  | str (x : Str) : Rp K G (.str x) (.str x)
  | lst {a : Addr} {xs : List V} {ds : List PyData} : G a = some (.lst xs) → Rps K G xs ds → Rp K G (.ref a) (.list ds)
  | tup {a : Addr} {xs : List V} {ds : List PyData} : SqT K G a xs → Rps K G xs ds → Rp K G (.ref a) (.tuple ds)
  | dic {a : Addr} {ks : List Key} {xs : List V} {kvs : List (PyData × PyData)} : G a = some (.dK (ks.zip xs)) → ks.length = xs.length → kvs.map (·.1) = ks.map keyDt → Rps K G xs (kvs.map (·.2)) → Rp K G (.ref a) (.dict kvs)
inductive Rps (K : PySem.W.Frag) (G : Hp) : List V → List PyData → Prop
  | nil : Rps K G [] []
  | cons {v : V} {vs : List V} {d : PyData} {ds : List PyData} : Rp K G v d → Rps K G vs ds → Rps K G (v :: vs) (d :: ds)
end
section
variable {K : PySem.W.Frag} {G G' H : Hp}
mutual
theorem rp_dp (e : Ex G H) : ∀ (d : PyData) (v : V), d.canLay0 = true → Rp K G v d → L2.Dp K H v d
  | .none, _, _, h => by cases h; exact .non
  | .bool b, _, _, h => by cases h; exact .bl b
  | .int i, _, _, h => by cases h; exact .int i
  | .str x, _, _, h => by cases h; exact .str x
  | .list ds, _, c, h => by
    cases h with
    | lst hs ha => exact .lst (SqL.of (e _ _ hs)) (rps_dp e ds _ (by simpa [PyData.canLay0] using c) ha)
  | .tuple ds, _, c, h => by
    cases h with
    | tup hs ha => exact .tup (e.t hs) (rps_dp e ds _ (by simpa [PyData.canLay0] using c) ha)
  | .dict _, _, c, _ => nomatch c
theorem rps_dp (e : Ex G H) : ∀ (ds : List PyData) (vs : List V), PyData.canLayAll0 ds = true → Rps K G vs ds → L2.DpAll K H vs ds
  | [], _, _, h => by cases h; exact .nil
  | d :: ds, _, c, h => by
    have c : d.canLay0 = true ∧ PyData.canLayAll0 ds = true := by simpa [PyData.canLayAll0] using c
    cases h with
    | cons h1 h2 => exact .cons (rp_dp e d _ c.1 h1) (rps_dp e ds _ c.2 h2)
end
theorem dpUp (e : Ex G G') (d : PyData) (v : V) (h : Rp K G v d) : Rp K G' v d :=
  Rp.rec (motive_1 := fun v d _ => Rp K G' v d) (motive_2 := fun vs ds _ => Rps K G' vs ds) .non (fun b => .bl b) (fun i => .int i) (fun x => .str x) (fun g _ ih => .lst (e _ _ g) ih) (fun s _ ih => .tup (e.t s) ih) (fun g l k _ ih => .dic (e _ _ g) l k ih) .nil (fun _ _ a b => .cons a b) h
theorem dpsUp (e : Ex G G') (ds : List PyData) (vs : List V) (h : Rps K G vs ds) : Rps K G' vs ds :=
  Rps.rec (motive_1 := fun v d _ => Rp K G' v d) (motive_2 := fun vs ds _ => Rps K G' vs ds) .non (fun b => .bl b) (fun i => .int i) (fun x => .str x) (fun g _ ih => .lst (e _ _ g) ih) (fun s _ ih => .tup (e.t s) ih) (fun g l k _ ih => .dic (e _ _ g) l k ih) .nil (fun _ _ a b => .cons a b) h
theorem dps_len : ∀ {vs : List V} {ds : List PyData}, Rps K G vs ds → vs.length = ds.length
  | _, _, .nil => rfl
  | _, _, .cons _ h => congrArg (· + 1) (dps_len h)
theorem dps_at : ∀ {vs : List V} {ds : List PyData} {i : Nat} {d : PyData}, Rps K G vs ds → ds[i]? = some d → ∃ v, vs[i]? = some v ∧ Rp K G v d
  | _, _, _, _, .nil, e => by simp at e
  | _, _, 0, _, .cons h _, e => by simp at e; subst e; exact ⟨_, rfl, h⟩
  | _, _, i + 1, _, .cons _ h, e => by
    obtain ⟨v, a, b⟩ := dps_at (i := i) h (by simpa using e)
    exact ⟨v, by simpa using a, b⟩
theorem dps_app : ∀ {vs ws : List V} {ds es : List PyData}, Rps K G vs ds → Rps K G ws es → Rps K G (vs ++ ws) (ds ++ es)
  | _, _, _, _, .nil, h => h
  | _, _, _, _, .cons a b, h => .cons a (dps_app b h)
theorem dps_take : ∀ (n : Nat) {vs : List V} {ds : List PyData}, Rps K G vs ds → Rps K G (vs.take n) (ds.take n)
  | 0, _, _, _ => by simpa using Rps.nil
  | _ + 1, _, _, .nil => .nil
  | n + 1, _, _, .cons a b => .cons a (dps_take n b)
theorem dps_drop : ∀ (n : Nat) {vs : List V} {ds : List PyData}, Rps K G vs ds → Rps K G (vs.drop n) (ds.drop n)
  | 0, _, _, h => h
  | _ + 1, _, _, .nil => .nil
  | n + 1, _, _, .cons _ b => dps_drop n b
theorem dps_set : ∀ (n : Nat) {vs : List V} {ds : List PyData} {v : V} {d : PyData}, Rps K G vs ds → Rp K G v d → Rps K G (vs.set n v) (ds.set n d)
  | _, _, _, _, _, .nil, _ => by simpa using Rps.nil
  | 0, _, _, _, _, .cons _ b, h => .cons h b
  | n + 1, _, _, _, _, .cons a b, h => .cons a (dps_set n b h)
theorem dps_ints : ∀ {ns : List Int} {vs : List V}, Rps K G vs (ns.map .int) → vs = ns.map V.int
  | [], _, h => by cases h; rfl
  | n :: ns, _, h => by
    cases h with
    | cons a b =>
      cases a
      rw [dps_ints b]
      rfl
theorem ints_dps : ∀ (ns : List Int), Rps K G (ns.map V.int) (ns.map PyData.int)
  | [] => .nil
  | n :: ns => .cons (.int n) (ints_dps ns)
end

/-- what a thing is known to be: nothing, data, an object that may change -/
inductive Ent where
  | no
  | dat (d : PyData)
  | ref (a : Addr)
  | ty (n : String)
  | scr (ns : List Int)
  | pln (ds : List PyData)
/-- an object that may change -/
inductive MO where
  | lst (ds : List PyData)
  | dct (kvs : List (Key × PyData))
  | tab (q : Str)
abbrev MM := List (Addr × MO)
abbrev dom (M : MM) : List Addr := M.map (·.1)

section
variable (K : PySem.W.Frag)
def EntV (G : Hp) (v : V) : Ent → Prop
  | .no => True
  | .dat d => Rp K G v d
  | .ref a => v = .ref a
  | .ty n => v = .ty n
  | .scr ns => ∃ a, v = .ref a ∧ SqL K G a (ns.map V.int)
  | .pln ds => ∃ a xs o, v = .ref a ∧ G a = some (.frz o (.tup xs)) ∧ o.dict = none ∧ Rps K G xs ds
def EntS (G : Hp) : Option V → Ent → Prop
  | _, .no => True
  | some v, e => EntV K G v e
  | none, _ => False
inductive En (G : Hp) : L2.St → List Ent → Prop
  | nil : En G [] []
  | cons {o : Option V} {e : Ent} {σ : L2.St} {es : List Ent} : EntS K G o e → En G σ es → En G (o :: σ) (e :: es)
inductive EnA (G : Hp) : List V → List Ent → Prop
  | nil : EnA G [] []
  | cons {v : V} {e : Ent} {vs : List V} {es : List Ent} : EntV K G v e → EnA G vs es → EnA G (v :: vs) (e :: es)
def MOk (G H : Hp) (a : Addr) : MO → Prop
  | .lst ds => ∃ xs, H a = some (.lst xs) ∧ Rps K G xs ds
  | .dct kvs => ∃ vs : List (Key × V), H a = some (.dK vs) ∧ Paired (fun (p : Key × V) (q : Key × PyData) => p.1 = q.1 ∧ Rp K G p.2 q.2) vs kvs
  | .tab q => ∃ ps : Array Value, H a = some (.tbl ps) ∧ TriplesOk ps.toList ∧ ∀ (at_ : Pos) (cv : Value), codeAmong at_ ps.toList = some cv → ∃ c, cv = .ref c ∧ G c = some (LamX.CodeO c q)
/-- the data G and what may change M, both in H, apart -/
structure Wf (G : Hp) (M : MM) (H : Hp) : Prop where
  gh : Ex G H
  mh : ∀ p ∈ M, MOk K G H p.1 p.2
  mg : ∀ p ∈ M, G p.1 = none
  nd : (dom M).Nodup
end
/-- from (G, H) to (G', H'): all that is not in D stays, data grow by new things alone -/
structure Grow (D : List Addr) (G H G' H' : Hp) : Prop where
  gg : Ex G G'
  fr : ∀ a, H a ≠ none → G' a = G a
  kp : ∀ a o, H a = some o → a ∉ D → H' a = some o
  al : ∀ a, H a ≠ none → H' a ≠ none
section
variable {K : PySem.W.Frag} {G G1 G2 H H1 H2 : Hp} {D D' : List Addr} {M M1 : MM}
theorem Grow.refl (D : List Addr) (G H : Hp) : Grow D G H G H := ⟨Ex.rfl' G, fun _ _ => rfl, fun _ _ h _ => h, fun _ h => h⟩
theorem Grow.trans (a : Grow D G H G1 H1) (b : Grow D G1 H1 G2 H2) : Grow D G H G2 H2 :=
  ⟨a.gg.tr b.gg, fun p h => (b.fr p (a.al p h)).trans (a.fr p h), fun p o h n => b.kp p o (a.kp p o h n) n, fun p h => b.al p (a.al p h)⟩
/-- the second step may also change what is new since the first -/
theorem Grow.transN (a : Grow D G H G1 H1) (b : Grow D' G1 H1 G2 H2) (h : ∀ p ∈ D', p ∈ D ∨ H p = none) : Grow D G H G2 H2 :=
  ⟨a.gg.tr b.gg, fun p h => (b.fr p (a.al p h)).trans (a.fr p h), fun p o e n => b.kp p o (a.kp p o e n) (fun z => by
    rcases h p z with q | q
    · exact n q
    · rw [e] at q; cases q), fun p h => b.al p (a.al p h)⟩
theorem Grow.wide (a : Grow D G H G1 H1) (h : ∀ p ∈ D, p ∈ D') : Grow D' G H G1 H1 :=
  ⟨a.gg, a.fr, fun p o e n => a.kp p o e fun z => n (h p z), a.al⟩
theorem moUp {a : Addr} {mo : MO} (e : Ex G G1) (h : H1 a = H a) (m : MOk K G H a mo) : MOk K G1 H1 a mo := by
  cases mo with
  | lst ds =>
    obtain ⟨xs, p, q⟩ := m
    exact ⟨xs, h.trans p, dpsUp e _ _ q⟩
  | dct kvs =>
    obtain ⟨vs, p, q⟩ := m
    refine ⟨vs, h.trans p, ?_⟩
    clear p
    induction q with
    | nil => exact .nil
    | cons r _ ih => exact .cons ⟨r.1, dpUp e _ _ r.2⟩ ih
  | tab q =>
    obtain ⟨ps, p, t, k⟩ := m
    exact ⟨ps, h.trans p, t, fun at_ cv hc => (k at_ cv hc).elim fun c z => ⟨c, z.1, e _ _ z.2⟩⟩
theorem MOk.some {a : Addr} {mo : MO} (m : MOk K G H a mo) : ∃ o, H a = some o := by
  cases mo with
  | lst ds => exact ⟨_, m.choose_spec.1⟩
  | dct kvs => exact ⟨_, m.choose_spec.1⟩
  | tab q => exact ⟨_, m.choose_spec.1⟩
theorem EntV.up {v : V} {e : Ent} (x : Ex G G1) (h : EntV K G v e) : EntV K G1 v e := by
  cases e with
  | no => trivial
  | dat d => exact dpUp x _ _ h
  | ref a => exact h
  | ty n => exact h
  | scr ns => exact h.elim fun a z => ⟨a, z.1, x.l z.2⟩
  | pln ds => obtain ⟨a, xs, o, e, g, n, r⟩ := h; exact ⟨a, xs, o, e, x _ _ g, n, dpsUp x _ _ r⟩
theorem EntS.up {o : Option V} {e : Ent} (x : Ex G G1) (h : EntS K G o e) : EntS K G1 o e := by
  cases o with
  | none => cases e <;> first | trivial | exact h.elim
  | some v =>
    cases e with
    | no => trivial
    | dat d => exact dpUp x d v h
    | ref a => exact h
    | ty n => exact h
    | scr ns => exact EntV.up (e := .scr ns) x h
    | pln ds => exact EntV.up (e := .pln ds) x h
theorem En.up {σ : L2.St} {es : List Ent} (x : Ex G G1) (h : En K G σ es) : En K G1 σ es := by
  induction h with
  | nil => exact .nil
  | cons a _ ih => exact .cons (a.up x) ih
theorem En.at {σ : L2.St} {es : List Ent} (h : En K G σ es) : ∀ {i : Nat} {e : Ent}, es[i]? = some e → e ≠ .no → ∃ v, σ[i]? = some (some v) ∧ EntV K G v e := by
  induction h with
  | nil => intro i e q; simp at q
  | @cons o e' σ es a _ ih =>
    intro i e q n
    cases i with
    | zero =>
      simp at q
      subst q
      cases o with
      | none => cases e' <;> first | exact absurd rfl n | exact a.elim
      | some v => refine ⟨v, rfl, ?_⟩; cases e' <;> exact a
    | succ i =>
      obtain ⟨v, p, r⟩ := ih (i := i) (by simpa using q) n
      exact ⟨v, by simpa using p, r⟩
theorem En.put {σ : L2.St} {es : List Ent} (h : En K G σ es) {v : V} {e : Ent} (r : EntV K G v e) : ∀ i, En K G (σ.set i (some v)) (es.set i e) := by
  induction h with
  | nil => intro i; simpa using En.nil
  | cons a b ih =>
    intro i
    cases i with
    | zero => exact .cons (by cases e <;> exact r) b
    | succ i => exact .cons a (ih i)
theorem EnA.dats : ∀ {vs : List V} {ds : List PyData}, EnA K G vs (ds.map .dat) → Rps K G vs ds
  | _, [], h => by cases h; exact .nil
  | _, d :: ds, h => by cases h with | cons a b => exact .cons a (EnA.dats b)
theorem EnA.ofDats : ∀ {vs : List V} {ds : List PyData}, Rps K G vs ds → EnA K G vs (ds.map .dat)
  | _, _, .nil => .nil
  | _, _, .cons a b => .cons a (EnA.ofDats b)
theorem En.start : ∀ {vs : List V} {es : List Ent} (n : Nat), EnA K G vs es → En K G (vs.map some ++ List.replicate n none) (es ++ List.replicate n .no)
  | _, _, 0, .nil => .nil
  | _, _, n + 1, .nil => .cons trivial (En.start n .nil)
  | _, _, n, .cons a b => .cons (by rename_i e _ _; cases e <;> exact a) (En.start n b)

/-! ### new data -/
theorem Wf.none_g (W : Wf K G M H) {p : Addr} (h : H p = none) : G p = none := by
  cases q : G p with
  | none => rfl
  | some o => rw [W.gh p o q] at h; cases h
theorem Wf.none_m (W : Wf K G M H) {p : Addr} (h : H p = none) : p ∉ dom M := fun z => by
  obtain ⟨x, hx, rfl⟩ := List.mem_map.mp z
  obtain ⟨o, e⟩ := (W.mh x hx).some
  rw [e] at h; cases h
theorem Wf.newG (W : Wf K G M H) {p : Addr} {o : HO} (h : H p = none) : Wf K (upd G p o) M (upd H p o) ∧ Grow (dom M) G H (upd G p o) (upd H p o) := by
  have hg := W.none_g h
  refine ⟨⟨fun a u e => ?_, fun x hx => ?_, fun x hx => ?_, W.nd⟩, ⟨Ex.add hg, fun a n => ?_, fun a u e _ => Ex.add h a u e, fun a n => ?_⟩⟩
  · by_cases c : a = p
    · subst c; rw [upd_same] at e; rw [upd_same]; exact e
    · rw [upd_ne c] at e ⊢; exact W.gh a u e
  · have c : x.1 ≠ p := fun c => W.none_m h (c ▸ List.mem_map.mpr ⟨x, hx, rfl⟩)
    exact moUp (Ex.add hg) (upd_ne c) (W.mh x hx)
  · have c : x.1 ≠ p := fun c => W.none_m h (c ▸ List.mem_map.mpr ⟨x, hx, rfl⟩)
    rw [upd_ne c]; exact W.mg x hx
  · rw [upd_ne]; rintro rfl; exact n h
  · by_cases c : a = p
    · subst c; rw [upd_same]; exact fun z => nomatch z
    · rw [upd_ne c]; exact n
/-- a new object that may change -/
theorem Wf.newM (W : Wf K G M H) {p : Addr} {xs : List V} {ds : List PyData} (h : H p = none) (hd : Rps K G xs ds) :
    Wf K G (M ++ [(p, .lst ds)]) (upd H p (.lst xs)) ∧ Grow (dom M) G H G (upd H p (.lst xs)) := by
  have hg := W.none_g h
  have hm := W.none_m h
  refine ⟨⟨W.gh.tr (Ex.add h), fun x hx => ?_, fun x hx => ?_, ?_⟩, ⟨Ex.rfl' G, fun _ _ => rfl, fun a u e _ => Ex.add h a u e, fun a n => ?_⟩⟩
  · rcases List.mem_append.mp hx with q | q
    · have c : x.1 ≠ p := fun c => hm (c ▸ List.mem_map.mpr ⟨x, q, rfl⟩)
      exact moUp (Ex.rfl' G) (upd_ne c) (W.mh x q)
    · obtain rfl := List.mem_singleton.mp q
      exact ⟨xs, upd_same, hd⟩
  · rcases List.mem_append.mp hx with q | q
    · exact W.mg x q
    · obtain rfl := List.mem_singleton.mp q
      exact hg
  · show (List.map _ (M ++ _)).Nodup
    rw [List.map_append]
    exact List.nodup_append.mpr ⟨W.nd, by simp, fun a ha b hb => by
      have : b = p := by simpa using hb
      subst this
      rintro rfl
      exact hm ha⟩
  · by_cases c : a = p
    · subst c; rw [upd_same]; exact fun z => nomatch z
    · rw [upd_ne c]; exact n
/-- a part of what may change -/
theorem Wf.part (W : Wf K G M H) (s : M1.Sublist M) : Wf K G M1 H :=
  ⟨W.gh, fun p hp => W.mh p (s.subset hp), fun p hp => W.mg p (s.subset hp), W.nd.sublist (s.map _)⟩
/-- a callee has changed the head objects alone -/
theorem Wf.back {Mh Mh1 Mr : MM} (W : Wf K G (Mh ++ Mr) H) (g : Grow (dom Mh) G H G1 H1) (W1 : Wf K G1 Mh1 H1) (e : dom Mh1 = dom Mh) : Wf K G1 (Mh1 ++ Mr) H1 := by
  have nd := W.nd
  unfold dom at nd
  rw [List.map_append] at nd
  have ap := List.nodup_append.mp nd
  have out : ∀ x ∈ Mr, x.1 ∉ dom Mh := fun x hx z => ap.2.2 _ z _ (List.mem_map.mpr ⟨x, hx, rfl⟩) rfl
  refine ⟨W1.gh, fun x hx => ?_, fun x hx => ?_, ?_⟩
  · rcases List.mem_append.mp hx with q | q
    · exact W1.mh x q
    · have m := W.mh x (List.mem_append_right _ q)
      obtain ⟨o, ho⟩ := m.some
      exact moUp g.gg ((g.kp _ _ ho (out x q)).trans ho.symm) m
  · rcases List.mem_append.mp hx with q | q
    · exact W1.mg x q
    · obtain ⟨o, ho⟩ := (W.mh x (List.mem_append_right _ q)).some
      rw [g.fr x.1 (by rw [ho]; exact fun z => nomatch z)]
      exact W.mg x (List.mem_append_right _ q)
  · show (List.map _ _).Nodup
    rw [List.map_append, show Mh1.map (·.1) = Mh.map (·.1) from e]
    exact nd
/-- one object is changed -/
theorem Wf.chg {Ma Mb : MM} {p : Addr} {mo : MO} {xs : List V} {ds : List PyData} (W : Wf K G (Ma ++ (p, mo) :: Mb) H) (hd : Rps K G xs ds) :
    Wf K G (Ma ++ (p, .lst ds) :: Mb) (upd H p (.lst xs)) ∧ Grow (dom (Ma ++ (p, mo) :: Mb)) G H G (upd H p (.lst xs)) := by
  have nd := W.nd
  have ed : dom (Ma ++ (p, MO.lst ds) :: Mb) = dom (Ma ++ (p, mo) :: Mb) := by simp [dom]
  have hg : G p = none := W.mg (p, mo) (by simp)
  have oth : ∀ x, x ∈ Ma ∨ x ∈ Mb → x.1 ≠ p := by
    intro x hx c
    unfold dom at nd
    rw [List.map_append, List.map_cons] at nd
    have ap := List.nodup_append.mp nd
    rcases hx with q | q
    · exact ap.2.2 _ (List.mem_map.mpr ⟨x, q, rfl⟩) p (by simp) c
    · exact (List.nodup_cons.mp ap.2.1).1 (c ▸ List.mem_map.mpr ⟨x, q, rfl⟩)
  refine ⟨⟨fun a u e => ?_, fun x hx => ?_, fun x hx => ?_, by rw [ed]; exact nd⟩, ⟨Ex.rfl' G, fun _ _ => rfl, fun a u e n => ?_, fun a n => ?_⟩⟩
  · rw [upd_ne (ne_of_none e hg)]; exact W.gh a u e
  · rcases List.mem_append.mp hx with q | q
    · exact moUp (Ex.rfl' G) (upd_ne (oth x (.inl q))) (W.mh x (List.mem_append_left _ q))
    · rcases List.mem_cons.mp q with q | q
      · subst q; exact ⟨xs, upd_same, hd⟩
      · exact moUp (Ex.rfl' G) (upd_ne (oth x (.inr q))) (W.mh x (List.mem_append_right _ (List.mem_cons_of_mem _ q)))
  · rcases List.mem_append.mp hx with q | q
    · exact W.mg x (List.mem_append_left _ q)
    · rcases List.mem_cons.mp q with q | q
      · subst q; exact hg
      · exact W.mg x (List.mem_append_right _ (List.mem_cons_of_mem _ q))
  · rw [upd_ne]
    · exact e
    · rintro rfl; exact n (by simp [dom])
  · by_cases c : a = p
    · subst c; rw [upd_same]; exact fun z => nomatch z
    · rw [upd_ne c]; exact n
end
end Yw

set_option Elab.async false
set_option linter.all false
set_option maxRecDepth 100000
set_option maxHeartbeats 4000000
/-! Own layer C: what an expression comes to, as data; statements; a def's promise. -/
namespace Yw
open PySem PySem.Spec PyProof.Rows L2

section
variable (K : PySem.W.Frag)
/-- what follows a value -/
def Res (M : MM) (G H : Hp) (P : Ent → MM → Prop) (Q : VK) : Prop :=
  ∀ e M1 v G1 H1, P e M1 → dom M1 = dom M → Grow (dom M) G H G1 H1 → Wf K G1 M1 H1 → EntV K G1 v e → Q v H1
def ResT (M : MM) (G H : Hp) (P : Bool → MM → Prop) (Q : Bool → Hp → Prop) : Prop :=
  ∀ b M1 G1 H1, P b M1 → dom M1 = dom M → Grow (dom M) G H G1 H1 → Wf K G1 M1 H1 → Q b H1
def ResA (M : MM) (G H : Hp) (P : List Ent → MM → Prop) (Q : List V → Hp → Prop) : Prop :=
  ∀ es M1 vs G1 H1, P es M1 → dom M1 = dom M → Grow (dom M) G H G1 H1 → Wf K G1 M1 H1 → EnA K G1 vs es → Q vs H1
def ResO (M : MM) (G H : Hp) (P : Option Int → MM → Prop) (Q : Option Int → Hp → Prop) : Prop :=
  ∀ o M1 G1 H1, P o M1 → dom M1 = dom M → Grow (dom M) G H G1 H1 → Wf K G1 M1 H1 → Q o H1
def ResG (M : MM) (G H : Hp) (P : List Ent → MM → Prop) (Q : L2.St → Hp → Prop) : Prop :=
  ∀ es M1 σ1 G1 H1, P es M1 → dom M1 = dom M → Grow (dom M) G H G1 H1 → Wf K G1 M1 H1 → En K G1 σ1 es → Q σ1 H1
def Ev (te : TE) (es : List Ent) (M : MM) (P : Ent → MM → Prop) : Prop :=
  ∀ σ G H Q, En K G σ es → Wf K G M H → Res K M G H P Q → te σ H Q
def EvT (tt : TT) (es : List Ent) (M : MM) (P : Bool → MM → Prop) : Prop :=
  ∀ σ G H Q, En K G σ es → Wf K G M H → ResT K M G H P Q → tt σ H Q
def EvA (ta : TA) (es : List Ent) (M : MM) (P : List Ent → MM → Prop) : Prop :=
  ∀ σ G H Q, En K G σ es → Wf K G M H → ResA K M G H P Q → ta σ H Q
def EvO (to : TO) (es : List Ent) (M : MM) (P : Option Int → MM → Prop) : Prop :=
  ∀ σ G H Q, En K G σ es → Wf K G M H → ResO K M G H P Q → to σ H Q
def Op2 (r : R2) (a b : Ent) (M : MM) (P : Ent → MM → Prop) : Prop :=
  ∀ x y G H Q, EntV K G x a → EntV K G y b → Wf K G M H → Res K M G H P Q → r x y H Q
def Op1 (r : V → Hp → VK → Prop) (a : Ent) (M : MM) (P : Ent → MM → Prop) : Prop :=
  ∀ x G H Q, EntV K G x a → Wf K G M H → Res K M G H P Q → r x H Q
def Cb (r : List V → Hp → VK → Prop) (as : List Ent) (M : MM) (P : Ent → MM → Prop) : Prop :=
  ∀ vs G H Q, EnA K G vs as → Wf K G M H → Res K M G H P Q → r vs H Q
def Mt (r : V → List V → Hp → VK → Prop) (a : Ent) (as : List Ent) (M : MM) (P : Ent → MM → Prop) : Prop :=
  ∀ x vs G H Q, EntV K G x a → EnA K G vs as → Wf K G M H → Res K M G H P Q → r x vs H Q
def Sl (r : V → Option Int → Option Int → Hp → VK → Prop) (a : Ent) (lo hi : Option Int) (M : MM) (P : Ent → MM → Prop) : Prop :=
  ∀ x G H Q, EntV K G x a → Wf K G M H → Res K M G H P Q → r x lo hi H Q
def Tg (g : TG) (a : Ent) (es : List Ent) (M : MM) (P : List Ent → MM → Prop) : Prop :=
  ∀ v σ G H Q, EntV K G v a → En K G σ es → Wf K G M H → ResG K M G H P Q → g v σ H Q
def Tgs (g : TGs) (ds : List PyData) (es : List Ent) (M : MM) (P : List Ent → MM → Prop) : Prop :=
  ∀ vs σ G H Q, Rps K G vs ds → En K G σ es → Wf K G M H → ResG K M G H P Q → g vs σ H Q
end

section
variable {K : PySem.W.Frag} {M M1 : MM} {G G1 H H1 : Hp} {es : List Ent} {P : Ent → MM → Prop}
theorem Res.go {Q : VK} (r : Res K M G H P Q) (e : dom M1 = dom M) (g : Grow (dom M) G H G1 H1) : Res K M1 G1 H1 P Q :=
  fun a M2 v G2 H2 p d g2 w x => r a M2 v G2 H2 p (d.trans e) (g.trans (e ▸ g2)) w x
theorem ResT.go {P : Bool → MM → Prop} {Q : Bool → Hp → Prop} (r : ResT K M G H P Q) (e : dom M1 = dom M) (g : Grow (dom M) G H G1 H1) : ResT K M1 G1 H1 P Q :=
  fun b M2 G2 H2 p d g2 w => r b M2 G2 H2 p (d.trans e) (g.trans (e ▸ g2)) w
theorem ResA.go {P : List Ent → MM → Prop} {Q : List V → Hp → Prop} (r : ResA K M G H P Q) (e : dom M1 = dom M) (g : Grow (dom M) G H G1 H1) : ResA K M1 G1 H1 P Q :=
  fun a M2 v G2 H2 p d g2 w x => r a M2 v G2 H2 p (d.trans e) (g.trans (e ▸ g2)) w x
theorem ResO.go {P : Option Int → MM → Prop} {Q : Option Int → Hp → Prop} (r : ResO K M G H P Q) (e : dom M1 = dom M) (g : Grow (dom M) G H G1 H1) : ResO K M1 G1 H1 P Q :=
  fun b M2 G2 H2 p d g2 w => r b M2 G2 H2 p (d.trans e) (g.trans (e ▸ g2)) w
theorem ResG.go {P : List Ent → MM → Prop} {Q : L2.St → Hp → Prop} (r : ResG K M G H P Q) (e : dom M1 = dom M) (g : Grow (dom M) G H G1 H1) : ResG K M1 G1 H1 P Q :=
  fun a M2 v G2 H2 p d g2 w x => r a M2 v G2 H2 p (d.trans e) (g.trans (e ▸ g2)) w x
theorem Res.val {Q : VK} (r : Res K M G H P Q) (w : Wf K G M H) {e : Ent} {v : V} (p : P e M) (x : EntV K G v e) : Q v H := r e M v G H p rfl (Grow.refl _ _ _) w x
theorem Res.new {Q : VK} (r : Res K M G H P Q) (w : Wf K G M H) {d : PyData} {o : HO} (p : P (.dat d) M) (x : ∀ a, G a = none → Rp K (upd G a o) (.ref a) d) : ∀ a, H a = none → Q (.ref a) (upd H a o) :=
  fun a ha => r (.dat d) M (.ref a) _ _ p rfl (w.newG ha).2 (w.newG ha).1 (x a (w.none_g ha))

/-! ### expressions -/
theorem ev_var {i : Nat} {e : Ent} (h : es[i]? = some e) (n : e ≠ .no) (p : P e M) : Ev K (tVar i) es M P := fun σ G H Q en w r => by
  obtain ⟨v, a, b⟩ := en.at h n
  exact ⟨v, a, r.val w p b⟩
theorem ev_dat {i : Nat} {d : PyData} (h : es[i]? = some (.dat d)) (p : P (.dat d) M) : Ev K (tVar i) es M P := ev_var h (fun z => nomatch z) p
theorem ev_ref {i : Nat} {a : Addr} (h : es[i]? = some (.ref a)) (p : P (.ref a) M) : Ev K (tVar i) es M P := ev_var h (fun z => nomatch z) p
theorem ev_int {i : Int} (p : P (.dat (.int i)) M) : Ev K (tC (.int i)) es M P := fun _ _ _ _ _ w r => r.val w p (.int i)
theorem ev_bl {b : Bool} (p : P (.dat (.bool b)) M) : Ev K (tC (.bl b)) es M P := fun _ _ _ _ _ w r => r.val w p (.bl b)
theorem ev_non (p : P (.dat .none) M) : Ev K (tC .non) es M P := fun _ _ _ _ _ w r => r.val w p .non
theorem ev_str {x : Str} (p : P (.dat (.str x)) M) : Ev K (tC (.str x)) es M P := fun _ _ _ _ _ w r => r.val w p (.str x)
theorem ev_ty {n : String} (p : P (.ty n) M) : Ev K (tC (.ty n)) es M P := fun _ _ _ _ _ w r => r.val w p rfl
theorem ev_op {r : R2} {ta tb : TE} (h : Ev K ta es M fun a M1 => Ev K tb es M1 fun b M2 => Op2 K r a b M2 P) : Ev K (tOp r ta tb) es M P := fun σ G H Q en w q =>
  h σ G H _ en w fun a M1 x G1 H1 ha e1 g1 w1 xa => ha σ G1 H1 _ (en.up g1.gg) w1 fun b M2 y G2 H2 hb e2 g2 w2 yb =>
    hb x y G2 H2 Q (xa.up g2.gg) yb w2 ((q.go e1 g1).go e2 g2)
theorem ev_un {r : V → Hp → VK → Prop} {ta : TE} (h : Ev K ta es M fun a M1 => Op1 K r a M1 P) : Ev K (tUn r ta) es M P := fun σ G H Q en w q =>
  h σ G H _ en w fun a M1 x G1 H1 ha e1 g1 w1 xa => ha x G1 H1 Q xa w1 (q.go e1 g1)
theorem ea_nil {P : List Ent → MM → Prop} (p : P [] M) : EvA K tNil es M P := fun _ G H _ _ w r => r [] M [] G H p rfl (Grow.refl _ _ _) w .nil
theorem ea_cons {ta : TE} {tr : TA} {P : List Ent → MM → Prop} (h : Ev K ta es M fun a M1 => EvA K tr es M1 fun as M2 => P (a :: as) M2) : EvA K (tCons ta tr) es M P := fun σ G H Q en w q =>
  h σ G H _ en w fun a M1 x G1 H1 ha e1 g1 w1 xa => ha σ G1 H1 _ (en.up g1.gg) w1 fun b M2 y G2 H2 hb e2 g2 w2 yb =>
    (q.go e1 g1) (a :: b) M2 (x :: y) G2 H2 hb e2 g2 w2 (.cons (xa.up g2.gg) yb)
theorem ev_cb {r : List V → Hp → VK → Prop} {ta : TA} (h : EvA K ta es M fun as M1 => Cb K r as M1 P) : Ev K (tCB r ta) es M P := fun σ G H Q en w q =>
  h σ G H _ en w fun a M1 x G1 H1 ha e1 g1 w1 xa => ha x G1 H1 Q xa w1 (q.go e1 g1)
/-- a def of the text -/
def tGo (sp : Sp) (t : TA) : TE := fun σ H Q => t σ H fun vs H1 => sp vs H1 Q E0
theorem ev_go {sp : Sp} {ta : TA} (h : EvA K ta es M fun as M1 => Cb K (fun vs H Q => sp vs H Q E0) as M1 P) : Ev K (tGo sp ta) es M P := fun σ G H Q en w q =>
  h σ G H _ en w fun a M1 x G1 H1 ha e1 g1 w1 xa => ha x G1 H1 Q xa w1 (q.go e1 g1)
theorem ev_tup {ta : TA} (h : EvA K ta es M fun as M1 => ∃ ds : List PyData, as = ds.map .dat ∧ ds.length ≤ 100000 ∧ P (.dat (.tuple ds)) M1) : Ev K (tTup ta) es M P := fun σ G H Q en w q =>
  h σ G H _ en w fun a M1 x G1 H1 ha e1 g1 w1 xa => by
    obtain ⟨ds, e, n, p⟩ := ha
    subst e
    have xd := EnA.dats xa
    exact ⟨by rw [dps_len xd]; exact Nat.le_trans n (by decide), (q.go e1 g1).new w1 p fun a c => .tup (.inl (.inl upd_same)) (dpsUp (Ex.add c) _ _ xd)⟩
theorem ev_lst {ta : TA} (h : EvA K ta es M fun as M1 => ∃ ds : List PyData, as = ds.map .dat ∧ ds.length ≤ 100000 ∧ P (.dat (.list ds)) M1) : Ev K (tLst ta) es M P := fun σ G H Q en w q =>
  h σ G H _ en w fun a M1 x G1 H1 ha e1 g1 w1 xa => by
    obtain ⟨ds, e, n, p⟩ := ha
    subst e
    have xd := EnA.dats xa
    exact ⟨by rw [dps_len xd]; exact Nat.le_trans n (by decide), (q.go e1 g1).new w1 p fun a c => .lst upd_same (dpsUp (Ex.add c) _ _ xd)⟩
theorem ev_if {t : TT} {ta tb : TE} (h : EvT K t es M fun c M1 => (c = true → Ev K ta es M1 P) ∧ (c = false → Ev K tb es M1 P)) : Ev K (tIf t ta tb) es M P := fun σ G H Q en w q =>
  h σ G H _ en w fun c M1 G1 H1 hc e1 g1 w1 => by
    cases c with
    | true => exact iteT (hc.1 rfl σ G1 H1 Q (en.up g1.gg) w1 (q.go e1 g1))
    | false => exact iteF (hc.2 rfl σ G1 H1 Q (en.up g1.gg) w1 (q.go e1 g1))
theorem ev_andV {ta tb : TE} (h : Ev K ta es M fun a M1 => ∃ c, a = .dat (.bool c) ∧ (c = true → Ev K tb es M1 P) ∧ (c = false → P (.dat (.bool false)) M1)) : Ev K (tAndV ta tb) es M P := fun σ G H Q en w q =>
  h σ G H _ en w fun a M1 x G1 H1 ha e1 g1 w1 xa => by
    obtain ⟨c, e, h1, h2⟩ := ha
    subst e
    cases xa
    refine ⟨c, rfl, ?_⟩
    cases c with
    | true => exact iteT (h1 rfl σ G1 H1 Q (en.up g1.gg) w1 (q.go e1 g1))
    | false => exact iteF ((q.go e1 g1).val w1 (h2 rfl) (.bl false))
theorem ev_notV {ta : TE} (h : Ev K ta es M fun a M1 => ∃ c, a = .dat (.bool c) ∧ P (.dat (.bool (!c))) M1) : Ev K (tNotV ta) es M P := fun σ G H Q en w q =>
  h σ G H _ en w fun a M1 x G1 H1 ha e1 g1 w1 xa => by
    obtain ⟨c, e, h1⟩ := ha
    subst e
    cases xa
    exact ⟨c, rfl, (q.go e1 g1).val w1 h1 (.bl _)⟩
theorem eo_none {P : Option Int → MM → Prop} (p : P none M) : EvO K tNoPart es M P := fun _ G H _ _ w r => r none M G H p rfl (Grow.refl _ _ _) w
theorem eo_some {ta : TE} {P : Option Int → MM → Prop} (h : Ev K ta es M fun a M1 => ∃ i, a = .dat (.int i) ∧ P (some i) M1) : EvO K (tPart ta) es M P := fun σ G H Q en w q =>
  h σ G H _ en w fun a M1 x G1 H1 ha e1 g1 w1 xa => by
    obtain ⟨i, e, p⟩ := ha
    subst e
    cases xa
    exact ⟨i, rfl, (q.go e1 g1) (some i) M1 G1 H1 p rfl (Grow.refl _ _ _) w1⟩
theorem ev_sl {r : V → Option Int → Option Int → Hp → VK → Prop} {te : TE} {tl th : TO} (h : Ev K te es M fun a M1 => EvO K tl es M1 fun lo M2 => EvO K th es M2 fun hi M3 => Sl K r a lo hi M3 P) : Ev K (tSl r te tl th) es M P := fun σ G H Q en w q =>
  h σ G H _ en w fun a M1 x G1 H1 ha e1 g1 w1 xa => ha σ G1 H1 _ (en.up g1.gg) w1 fun lo M2 G2 H2 hb e2 g2 w2 => hb σ G2 H2 _ ((en.up g1.gg).up g2.gg) w2 fun hi M3 G3 H3 hc e3 g3 w3 =>
    hc x G3 H3 Q ((xa.up g2.gg).up g3.gg) w3 (((q.go e1 g1).go e2 g2).go e3 g3)
/-- of what built-in type a thing is -/
def TyE (K : PySem.W.Frag) (T : String) (a : Ent) (M : MM) : Prop := ∀ x G H, EntV K G x a → Wf K G M H → tyV K T x H
theorem ev_bm {T : String} {r : V → List V → Hp → VK → Prop} {to : TE} {ta : TA} (h : Ev K to es M fun a M1 => TyE K T a M1 ∧ EvA K ta es M1 fun as M2 => Mt K r a as M2 P) : Ev K (tBM K T r to ta) es M P := fun σ G H Q en w q =>
  h σ G H _ en w fun a M1 x G1 H1 ha e1 g1 w1 xa => ⟨ha.1 x G1 H1 xa w1, ha.2 σ G1 H1 _ (en.up g1.gg) w1 fun as M2 ys G2 H2 hb e2 g2 w2 yb =>
    hb x ys G2 H2 Q (xa.up g2.gg) yb w2 ((q.go e1 g1).go e2 g2)⟩
theorem ev_chain {r r' : R2} {ta tb tc : TE} (h : Ev K ta es M fun a M1 => Ev K tb es M1 fun b M2 => Op2 K r a b M2 fun z M3 => ∃ c, z = .dat (.bool c) ∧
    (c = true → Ev K tc es M3 fun d M4 => Op2 K r' b d M4 P) ∧ (c = false → P (.dat (.bool false)) M3)) : Ev K (tChain r r' ta tb tc) es M P := fun σ G H Q en w q =>
  h σ G H _ en w fun a M1 x G1 H1 ha e1 g1 w1 xa => ha σ G1 H1 _ (en.up g1.gg) w1 fun b M2 y G2 H2 hb e2 g2 w2 yb =>
    hb x y G2 H2 _ (xa.up g2.gg) yb w2 fun z M3 zv G3 H3 hz e3 g3 w3 xz => by
      have q3 := ((q.go e1 g1).go e2 g2).go e3 g3
      obtain ⟨c, e, h1, h2⟩ := hz
      subst e
      cases xz
      refine ⟨c, rfl, ?_⟩
      cases c with
      | true => exact iteT (h1 rfl σ G3 H3 _ (((en.up g1.gg).up g2.gg).up g3.gg) w3 fun d M4 dv G4 H4 hd e4 g4 w4 xd => hd y dv G4 H4 Q ((yb.up g3.gg).up g4.gg) xd w4 (q3.go e4 g4))
      | false => exact iteF (q3.val w3 (h2 rfl) (.bl false))

/-! ### tests -/
section
variable {P : Bool → MM → Prop} {t u : TT} {te : TE}
theorem et_B (h : Ev K te es M fun a M1 => ∃ c, a = .dat (.bool c) ∧ P c M1) : EvT K (tB te) es M P := fun σ G H Q en w q =>
  h σ G H _ en w fun a M1 x G1 H1 ha e1 g1 w1 xa => by
    obtain ⟨c, e, p⟩ := ha
    subst e
    cases xa
    exact ⟨c, rfl, (q.go e1 g1) c M1 G1 H1 p rfl (Grow.refl _ _ _) w1⟩
theorem et_test (h : Ev K te es M fun a M1 => ∃ c, a = .dat (.bool c) ∧ P c M1) : EvT K (tTest te) es M P := et_B h
theorem et_and (h : EvT K t es M fun a M1 => (a = true → EvT K u es M1 P) ∧ (a = false → P false M1)) : EvT K (tAnd t u) es M P := fun σ G H Q en w q =>
  h σ G H _ en w fun c M1 G1 H1 hc e1 g1 w1 => by
    cases c with
    | true => exact iteT (hc.1 rfl σ G1 H1 Q (en.up g1.gg) w1 (q.go e1 g1))
    | false => exact iteF ((q.go e1 g1) false M1 G1 H1 (hc.2 rfl) rfl (Grow.refl _ _ _) w1)
theorem et_or (h : EvT K t es M fun a M1 => (a = false → EvT K u es M1 P) ∧ (a = true → P true M1)) : EvT K (tOr t u) es M P := fun σ G H Q en w q =>
  h σ G H _ en w fun c M1 G1 H1 hc e1 g1 w1 => by
    cases c with
    | false => exact iteF (hc.1 rfl σ G1 H1 Q (en.up g1.gg) w1 (q.go e1 g1))
    | true => exact iteT ((q.go e1 g1) true M1 G1 H1 (hc.2 rfl) rfl (Grow.refl _ _ _) w1)
theorem et_not (h : EvT K t es M fun a M1 => P (!a) M1) : EvT K (tNot t) es M P := fun σ G H Q en w q =>
  h σ G H _ en w fun c M1 G1 H1 hc e1 g1 w1 => (q.go e1 g1) (!c) M1 G1 H1 hc rfl (Grow.refl _ _ _) w1
theorem et_yes (p : P true M) : EvT K tYes es M P := fun _ G H _ _ w r => r true M G H p rfl (Grow.refl _ _ _) w
end

/-! ### targets -/
section
variable {P : List Ent → MM → Prop}
theorem tg_name {i : Nat} {a : Ent} (p : P (es.set i a) M) : Tg K (gName i) a es M P := fun v σ G H Q xa en w r =>
  r _ M _ G H p rfl (Grow.refl _ _ _) w (en.put xa i)
theorem tgs_nil (p : P es M) : Tgs K gNil [] es M P := fun vs σ G H Q xa en w r => by
  cases xa
  exact ⟨rfl, r _ M _ G H p rfl (Grow.refl _ _ _) w en⟩
theorem tgs_cons {t : TG} {u : TGs} {d : PyData} {ds : List PyData} (h : Tg K t (.dat d) es M fun es1 M1 => Tgs K u ds es1 M1 P) : Tgs K (gCons t u) (d :: ds) es M P := fun vs σ G H Q xa en w r => by
  cases xa with
  | cons x y => exact ⟨_, _, rfl, h _ σ G H _ x en w fun es1 M1 σ1 G1 H1 ha e1 g1 w1 en1 => ha _ σ1 G1 H1 Q (dpsUp g1.gg _ _ y) en1 w1 (r.go e1 g1)⟩
theorem tg_tup {t : TGs} {n : Nat} {ds : List PyData} (hn : ds.length = n) (h : Tgs K t ds es M P) : Tg K (gTup K n t) (.dat (.tuple ds)) es M P := fun v σ G H Q xa en w r => by
  cases xa with
  | tup s a => exact ⟨_, _, rfl, w.gh.t s, by rw [dps_len a, hn], h _ σ G H Q a en w r⟩
end
end
end Yw

set_option Elab.async false
set_option linter.all false
set_option maxRecDepth 100000
set_option maxHeartbeats 4000000
/-! Own layer D: statements by data, loops, comprehensions, a def's promise. -/
namespace Yw
open PySem PySem.Spec PyProof.Rows L2

/-- what is wanted behind a statement -/
structure DE where
  nx : List Ent → MM → Prop
  rt : Ent → MM → Prop
  bk : List Ent → MM → Prop := fun _ _ => False
  ct : List Ent → MM → Prop := fun _ _ => False
/-- how far one is from the start (G0, D0, H0) -/
structure Far (K : PySem.W.Frag) (G0 : Hp) (D0 : List Addr) (H0 : Hp) (G : Hp) (M : MM) (H : Hp) : Prop where
  gr : Grow D0 G0 H0 G H
  wf : Wf K G M H
  own : ∀ a ∈ dom M, a ∈ D0 ∨ H0 a = none
  bs : ∀ a ∈ D0, H0 a ≠ none
def At (K : PySem.W.Frag) (G0 : Hp) (D0 : List Addr) (H0 : Hp) (es : List Ent) (M : MM) (σ : L2.St) (H : Hp) : Prop := ∃ G, Far K G0 D0 H0 G M H ∧ En K G σ es
def AtV (K : PySem.W.Frag) (G0 : Hp) (D0 : List Addr) (H0 : Hp) (e : Ent) (M : MM) (v : V) (H : Hp) : Prop := ∃ G, Far K G0 D0 H0 G M H ∧ EntV K G v e
structure Lk (K : PySem.W.Frag) (G0 : Hp) (D0 : List Addr) (H0 : Hp) (W : DE) (D : Ends) : Prop where
  nx : ∀ es M σ H, W.nx es M → At K G0 D0 H0 es M σ H → D.nx σ H
  rt : ∀ e M v H, W.rt e M → AtV K G0 D0 H0 e M v H → D.rt v H
  bk : ∀ es M σ H, W.bk es M → At K G0 D0 H0 es M σ H → D.bk σ H
  ct : ∀ es M σ H, W.ct es M → At K G0 D0 H0 es M σ H → D.ct σ H
/-- B: the objects that may have changed since the start -/
def Sj (K : PySem.W.Frag) (D0 : List Addr) (ts : TS) (es : List Ent) (M : MM) (W : DE) : Prop :=
  ∀ G0 H0 σ H D, At K G0 D0 H0 es M σ H → Lk K G0 D0 H0 W D → ts D σ H

section
variable {K : PySem.W.Frag} {G0 G G1 H0 H H1 : Hp} {D0 : List Addr} {M M1 : MM} {es : List Ent} {W : DE} {te : TE}
theorem Far.step (f : Far K G0 D0 H0 G M H) (g : Grow (dom M) G H G1 H1) (w : Wf K G1 M1 H1) (e : dom M1 = dom M) : Far K G0 D0 H0 G1 M1 H1 :=
  ⟨f.gr.transN g f.own, w, by rw [e]; exact f.own, f.bs⟩
theorem Far.join (f : Far K G0 D0 H0 G M H) (g : Far K G (dom M) H G1 M1 H1) : Far K G0 D0 H0 G1 M1 H1 :=
  ⟨f.gr.transN g.gr f.own, g.wf, fun a h => by
    rcases g.own a h with q | q
    · exact f.own a q
    · cases z : H0 a with
      | none => exact .inr rfl
      | some o => exact absurd q (f.gr.al a (by rw [z]; exact fun x => nomatch x)), f.bs⟩
theorem Wf.there (w : Wf K G M H) : ∀ a ∈ dom M, H a ≠ none := fun a h => by
  obtain ⟨x, hx, rfl⟩ := List.mem_map.mp h
  obtain ⟨o, e⟩ := (w.mh x hx).some
  rw [e]; exact fun z => nomatch z
theorem Far.refl (w : Wf K G M H) : Far K G (dom M) H G M H := ⟨Grow.refl _ _ _, w, fun _ h => .inl h, w.there⟩
/-- a start of one's own -/
theorem Lk.join {W : DE} {D : Ends} (f : Far K G0 D0 H0 G M H) (l : Lk K G0 D0 H0 W D) : Lk K G (dom M) H W D :=
  ⟨fun es M σ H p ⟨G, a, b⟩ => l.nx es M σ H p ⟨G, f.join a, b⟩, fun e M v H p ⟨G, a, b⟩ => l.rt e M v H p ⟨G, f.join a, b⟩,
    fun es M σ H p ⟨G, a, b⟩ => l.bk es M σ H p ⟨G, f.join a, b⟩, fun es M σ H p ⟨G, a, b⟩ => l.ct es M σ H p ⟨G, f.join a, b⟩⟩

theorem sj_next (p : W.nx es M) : Sj K D0 tNext es M W := fun _ _ _ _ _ a l => l.nx _ _ _ _ p a
theorem sj_seq {t u : TS} (h : Sj K D0 t es M { W with nx := fun es1 M1 => Sj K D0 u es1 M1 W }) : Sj K D0 (tSeq t u) es M W := fun G0 H0 σ H D a l =>
  h G0 H0 σ H _ a ⟨fun es1 M1 σ1 H1 p a1 => p G0 H0 σ1 H1 D a1 l, l.rt, l.bk, l.ct⟩
theorem sj_drop (h : Ev K te es M fun _ M1 => W.nx es M1) : Sj K D0 (tDrop te) es M W := fun G0 H0 σ H D ⟨G, f, en⟩ l =>
  h σ G H _ en f.wf fun e M1 v G1 H1 p d g w x => l.nx es M1 σ H1 p ⟨G1, f.step g w d, en.up g.gg⟩
theorem sj_ret (h : Ev K te es M fun e M1 => W.rt e M1) : Sj K D0 (tRet te) es M W := fun G0 H0 σ H D ⟨G, f, en⟩ l =>
  h σ G H _ en f.wf fun e M1 v G1 H1 p d g w x => l.rt e M1 v H1 p ⟨G1, f.step g w d, x⟩
theorem sj_if {c : TT} {t u : TS} (h : EvT K c es M fun b M1 => (b = true → Sj K D0 t es M1 W) ∧ (b = false → Sj K D0 u es M1 W)) : Sj K D0 (tIfS c t u) es M W := fun G0 H0 σ H D ⟨G, f, en⟩ l =>
  h σ G H _ en f.wf fun b M1 G1 H1 p d g w => by
    cases b with
    | true => exact iteT (p.1 rfl G0 H0 σ H1 D ⟨G1, f.step g w d, en.up g.gg⟩ l)
    | false => exact iteF (p.2 rfl G0 H0 σ H1 D ⟨G1, f.step g w d, en.up g.gg⟩ l)
theorem sj_asg {g : TG} (h : Ev K te es M fun e M1 => Tg K g e es M1 fun es2 M2 => W.nx es2 M2) : Sj K D0 (tAsg te g) es M W := fun G0 H0 σ H D ⟨G, f, en⟩ l =>
  h σ G H _ en f.wf fun e M1 v G1 H1 p d g w x => p v σ G1 H1 _ x (en.up g.gg) w fun es2 M2 σ2 G2 H2 q d2 g2 w2 en2 => l.nx es2 M2 σ2 H2 q ⟨G2, (f.step g w d).step g2 w2 d2, en2⟩

end
end Yw
namespace Yw
open PySem PySem.Spec PyProof.Rows L2
section
variable {K : PySem.W.Frag} {G0 G G1 H0 H H1 : Hp} {D0 : List Addr} {M M1 : MM} {es : List Ent} {W : DE} {te : TE}
theorem sj_set {i : Nat} (h : Ev K te es M fun e M1 => W.nx (es.set i e) M1) : Sj K D0 (tAsg te (gName i)) es M W := fun G0 H0 σ H D ⟨G, f, en⟩ l =>
  h σ G H _ en f.wf fun e M1 v G1 H1 p d g w x => l.nx _ M1 _ H1 p ⟨G1, f.step g w d, (en.up g.gg).put x i⟩
/-- a name gets a new list that may change -/
theorem sj_new {i : Nat} {ta : TA} (h : EvA K ta es M fun as M1 => ∃ ds : List PyData, as = ds.map .dat ∧ ds.length ≤ 100000 ∧ ∀ p, p ∉ D0 → W.nx (es.set i (.ref p)) (M1 ++ [(p, .lst ds)])) : Sj K D0 (tAsg (tLst ta) (gName i)) es M W := fun G0 H0 σ H D ⟨G, f, en⟩ l =>
  h σ G H _ en f.wf fun as M1 vs G1 H1 p d g w x => by
    obtain ⟨ds, e, n, k⟩ := p
    subst e
    have xd := EnA.dats x
    refine ⟨by rw [dps_len xd]; exact Nat.le_trans n (by decide), fun q hq => ?_⟩
    have f1 := f.step g w d
    have z := w.newM hq xd
    refine l.nx _ _ _ _ (k q fun hb => f1.gr.al q (f1.bs q hb) hq) ⟨G1, ⟨f1.gr.transN z.2 f1.own, z.1, fun a ha => ?_, f1.bs⟩, (en.up g.gg).put (e := .ref q) rfl i⟩
    unfold dom at ha
    rw [List.map_append] at ha
    rcases List.mem_append.mp ha with r | r
    · exact f1.own a r
    · have : a = q := by simpa using r
      subst this
      cases z0 : H0 a with
      | none => exact .inr rfl
      | some o => exact absurd hq (f1.gr.al a (by rw [z0]; exact fun x => nomatch x))
end
end Yw

set_option Elab.async false
set_option linter.all false
set_option maxRecDepth 100000
set_option maxHeartbeats 4000000
/-! Own layer E: loops and comprehensions over data. -/
namespace Yw
open PySem PySem.Spec PyProof.Rows L2

/-- J yields the data ds, whatever has grown since G1 -/
def Yl (K : PySem.W.Frag) (G1 : Hp) (J : It) (ds : List PyData) : Prop :=
  ∀ (M : MM) (G H : Hp), Ex G1 G → Wf K G M H →
    (∀ k d, ds[k]? = some d → J.go k H ∧ ∀ x H1, J.yld k H x H1 → ∃ G2, Grow (dom M) G H G2 H1 ∧ Wf K G2 M H1 ∧ Rp K G2 x d) ∧ J.stop ds.length H
def Iw (K : PySem.W.Frag) (wi : TI) (es : List Ent) (M : MM) (P : List PyData → MM → Prop) : Prop :=
  ∀ σ G H R, En K G σ es → Wf K G M H → (∀ ds M1 G1 H1 J, P ds M1 → dom M1 = dom M → Grow (dom M) G H G1 H1 → Wf K G1 M1 H1 → Yl K G1 J ds → R J H1) → wi σ H R

section
variable {K : PySem.W.Frag} {G0 G G1 H0 H H1 : Hp} {D0 : List Addr} {M M1 : MM} {es : List Ent} {W : DE} {te : TE}
theorem yl_list {a : Addr} {xs : List V} {ds : List PyData} (h : SqL K G1 a xs) (x : Rps K G1 xs ds) : Yl K G1 (Itl K a) ds := fun M G H e w => by
  have s := w.gh.l (e.l h)
  refine ⟨fun k d q => ?_, ⟨xs, s, by rw [dps_len x]; exact Nat.le_refl _⟩⟩
  obtain ⟨v, hv, r⟩ := dps_at (dpsUp e _ _ x) q
  refine ⟨⟨xs, v, s, hv⟩, fun y H1 ⟨e1, f⟩ => ?_⟩
  subst e1
  have ev : v = y := Option.some.inj (hv.symm.trans (f xs s))
  subst ev
  exact ⟨G, Grow.refl _ _ _, w, r⟩
theorem yl_tup {a : Addr} {xs : List V} {ds : List PyData} (h : SqT K G1 a xs) (x : Rps K G1 xs ds) : Yl K G1 (Itt K a) ds := fun M G H e w => by
  have s := w.gh.t (e.t h)
  refine ⟨fun k d q => ?_, ⟨xs, s, by rw [dps_len x]; exact Nat.le_refl _⟩⟩
  obtain ⟨v, hv, r⟩ := dps_at (dpsUp e _ _ x) q
  refine ⟨⟨xs, v, s, hv⟩, fun y H1 ⟨e1, f⟩ => ?_⟩
  subst e1
  have ev : v = y := Option.some.inj (hv.symm.trans (f xs s))
  subst ev
  exact ⟨G, Grow.refl _ _ _, w, r⟩
/-- lo, lo + 1, .. -/
def rgD (lo : Int) (n : Nat) : List PyData := (List.range n).map fun (i : Nat) => PyData.int (lo + (i : Int))
theorem rgD_at {lo : Int} {n k : Nat} {d : PyData} (h : (rgD lo n)[k]? = some d) : k < n ∧ d = .int (lo + k) := by
  unfold rgD at h
  rw [List.getElem?_map] at h
  by_cases c : k < n
  · rw [List.getElem?_range c] at h
    exact ⟨c, (Option.some.inj h).symm⟩
  · rw [List.getElem?_eq_none (by simpa using c)] at h
    cases h
theorem rgD_len {lo : Int} {n : Nat} : (rgD lo n).length = n := by simp [rgD]
theorem yl_rng {lo : Int} {n : Nat} : Yl K G1 (Itr lo n) (rgD lo n) := fun M G H e w => by
  refine ⟨fun k d q => ?_, ?_⟩
  · obtain ⟨c, rfl⟩ := rgD_at q
    exact ⟨c, fun y H1 ⟨e1, f⟩ => by subst e1; subst f; exact ⟨G, Grow.refl _ _ _, w, .int _⟩⟩
  · show n ≤ (rgD lo n).length
    rw [rgD_len]; exact Nat.le_refl _
/-- the pairs of two lists -/
def zipD : List PyData → List PyData → List PyData
  | a :: as, b :: bs => .tuple [a, b] :: zipD as bs
  | _, _ => []
theorem zipD_at : ∀ {as bs : List PyData} {k : Nat} {d : PyData}, (zipD as bs)[k]? = some d → ∃ a b, as[k]? = some a ∧ bs[k]? = some b ∧ d = .tuple [a, b]
  | [], _, _, _, h => by simp [zipD] at h
  | _ :: _, [], _, _, h => by simp [zipD] at h
  | a :: as, b :: bs, 0, d, h => ⟨a, b, rfl, rfl, by simpa [zipD] using h.symm⟩
  | a :: as, b :: bs, k + 1, d, h => by
    obtain ⟨x, y, p, q, e⟩ := zipD_at (as := as) (bs := bs) (k := k) (by simpa [zipD] using h)
    exact ⟨x, y, by simpa using p, by simpa using q, e⟩
theorem zipD_len : ∀ (as bs : List PyData), (zipD as bs).length = min as.length bs.length
  | [], _ => by simp [zipD]
  | _ :: _, [] => by simp [zipD]
  | a :: as, b :: bs => by
    show (zipD as bs).length + 1 = min (as.length + 1) (bs.length + 1)
    rw [zipD_len as bs]
    omega
theorem Wf.pair (w : Wf K G M H) {T : Addr} {x y : V} {a b : PyData} (n : H T = none) (hx : Rp K G x a) (hy : Rp K G y b) :
    ∃ G2, Grow (dom M) G H G2 (upd H T (.tup [x, y])) ∧ Wf K G2 M (upd H T (.tup [x, y])) ∧ Rp K G2 (.ref T) (.tuple [a, b]) := by
  have z := w.newG (o := HO.tup [x, y]) n
  have u := Ex.add (o := HO.tup [x, y]) (w.none_g n)
  exact ⟨_, z.2, z.1, .tup (.inl (.inl upd_same)) (.cons (dpUp u _ _ hx) (.cons (dpUp u _ _ hy) .nil))⟩
theorem yl_zip {a b : Addr} {xs ys : List V} {ds cs : List PyData} (h : SqL K G1 a xs) (x : Rps K G1 xs ds) (h2 : SqL K G1 b ys) (y : Rps K G1 ys cs) : Yl K G1 (Itz K a b) (zipD ds cs) := fun M G H e w => by
  have s := w.gh.l (e.l h)
  have s2 := w.gh.l (e.l h2)
  refine ⟨fun k d q => ?_, ⟨xs, ys, s, s2, ?_⟩⟩
  · obtain ⟨p, r, hp, hr, rfl⟩ := zipD_at q
    obtain ⟨v, hv, rv⟩ := dps_at (dpsUp e _ _ x) hp
    obtain ⟨u, hu, ru⟩ := dps_at (dpsUp e _ _ y) hr
    refine ⟨⟨xs, ys, v, u, s, s2, hv, hu⟩, fun z H1 ⟨T, x1, x2, e1, n, e2, f1, f2⟩ => ?_⟩
    subst e1 e2
    obtain rfl := Option.some.inj (hv.symm.trans (f1 xs s))
    obtain rfl := Option.some.inj (hu.symm.trans (f2 ys s2))
    exact w.pair n rv ru
  · rw [zipD_len, ← dps_len x, ← dps_len y]
    omega
theorem yl_zipT {a b : Addr} {xs ys : List V} {ds cs : List PyData} (h : SqT K G1 a xs) (x : Rps K G1 xs ds) (h2 : SqT K G1 b ys) (y : Rps K G1 ys cs) : Yl K G1 (RZ.ItzT K a b) (zipD ds cs) := fun M G H e w => by
  have s := w.gh.t (e.t h)
  have s2 := w.gh.t (e.t h2)
  refine ⟨fun k d q => ?_, ⟨xs, ys, s, s2, ?_⟩⟩
  · obtain ⟨p, r, hp, hr, rfl⟩ := zipD_at q
    obtain ⟨v, hv, rv⟩ := dps_at (dpsUp e _ _ x) hp
    obtain ⟨u, hu, ru⟩ := dps_at (dpsUp e _ _ y) hr
    refine ⟨⟨xs, ys, v, u, s, s2, hv, hu⟩, fun z H1 ⟨T, x1, x2, e1, n, e2, f1, f2⟩ => ?_⟩
    subst e1 e2
    obtain rfl := Option.some.inj (hv.symm.trans (f1 xs s))
    obtain rfl := Option.some.inj (hu.symm.trans (f2 ys s2))
    exact w.pair n rv ru
  · rw [zipD_len, ← dps_len x, ← dps_len y]
    omega

/-! ### what is walked -/
theorem iw_list {P : List PyData → MM → Prop} (h : Ev K te es M fun e M1 => ∃ ds, e = .dat (.list ds) ∧ P ds M1) : Iw K (iList K te) es M P := fun σ G H R en w k =>
  h σ G H _ en w fun e M1 v G1 H1 p d g w1 x => by
    obtain ⟨ds, e, p⟩ := p
    subst e
    cases x with
    | lst s a => exact ⟨_, rfl, ⟨_, SqL.of (w1.gh _ _ s)⟩, k ds M1 G1 H1 _ p d g w1 (yl_list (SqL.of s) a)⟩
theorem iw_tup {P : List PyData → MM → Prop} (h : Ev K te es M fun e M1 => ∃ ds, e = .dat (.tuple ds) ∧ P ds M1) : Iw K (iTup K te) es M P := fun σ G H R en w k =>
  h σ G H _ en w fun e M1 v G1 H1 p d g w1 x => by
    obtain ⟨ds, e, p⟩ := p
    subst e
    cases x with
    | tup s a => exact ⟨_, rfl, ⟨_, w1.gh.t s⟩, k ds M1 G1 H1 _ p d g w1 (yl_tup s a)⟩
theorem iw_r1 {ta : TA} {P : List PyData → MM → Prop} (h : EvA K ta es M fun as M1 => ∃ n : Int, as = [.dat (.int n)] ∧ (-(2 ^ 62) ≤ n ∧ n < 2 ^ 62) ∧ P (rgD 0 n.toNat) M1) : Iw K (iRng1 ta) es M P := fun σ G H R en w k =>
  h σ G H _ en w fun as M1 vs G1 H1 p d g w1 x => by
    obtain ⟨n, e, b, p⟩ := p
    subst e
    cases x with
    | cons x1 x2 =>
      cases x1; cases x2
      exact ⟨n, rfl, b.1, b.2, k _ M1 G1 H1 _ p d g w1 yl_rng⟩
theorem iw_r2 {ta : TA} {P : List PyData → MM → Prop} (h : EvA K ta es M fun as M1 => ∃ m n : Int, as = [.dat (.int m), .dat (.int n)] ∧ (-(2 ^ 62) ≤ m ∧ m < 2 ^ 62 ∧ -(2 ^ 62) ≤ n ∧ n < 2 ^ 62) ∧ P (rgD m (n - m).toNat) M1) : Iw K (iRng2 ta) es M P := fun σ G H R en w k =>
  h σ G H _ en w fun as M1 vs G1 H1 p d g w1 x => by
    obtain ⟨m, n, e, b, p⟩ := p
    subst e
    cases x with
    | cons x1 x2 =>
      cases x1
      cases x2 with
      | cons x3 x4 =>
        cases x3; cases x4
        exact ⟨m, n, rfl, b, k _ M1 G1 H1 _ p d g w1 yl_rng⟩
theorem iw_zip {ta : TA} {P : List PyData → MM → Prop} (h : EvA K ta es M fun as M1 => ∃ ds cs : List PyData, (as = [.dat (.list ds), .dat (.list cs)] ∨ as = [.dat (.tuple ds), .dat (.tuple cs)]) ∧ P (zipD ds cs) M1) : Iw K (RZ.iZipA K ta) es M P := fun σ G H R en w k =>
  h σ G H _ en w fun as M1 vs G1 H1 p d g w1 x => by
    obtain ⟨ds, cs, e, p⟩ := p
    rcases e with e | e
    · subst e
      cases x with
      | cons x1 x2 =>
        cases x2 with
        | cons x3 x4 =>
          cases x4
          cases x1 with
          | lst s a =>
            cases x3 with
            | lst s2 a2 => exact ⟨_, _, _, _, rfl, .inl ⟨SqL.of (w1.gh _ _ s), SqL.of (w1.gh _ _ s2), k _ M1 G1 H1 _ p d g w1 (yl_zip (SqL.of s) a (SqL.of s2) a2)⟩⟩
    · subst e
      cases x with
      | cons x1 x2 =>
        cases x2 with
        | cons x3 x4 =>
          cases x4
          cases x1 with
          | tup s a =>
            cases x3 with
            | tup s2 a2 => exact ⟨_, _, _, _, rfl, .inr ⟨w1.gh.t s, w1.gh.t s2, k _ M1 G1 H1 _ p d g w1 (yl_zipT s a s2 a2)⟩⟩

/-! ### for -/
theorem sj_for {wi : TI} {g : TG} {tb : TS} (h : Iw K wi es M fun ds M1 => ∃ I : Nat → List Ent → MM → Prop, I 0 es M1 ∧
      (∀ k d es2 M2, ds[k]? = some d → I k es2 M2 → Tg K g (.dat d) es2 M2 fun es3 M3 => Sj K (dom M1) tb es3 M3 { nx := I (k + 1), ct := I (k + 1), bk := W.nx, rt := W.rt }) ∧
      (∀ es2 M2, I ds.length es2 M2 → W.nx es2 M2)) : Sj K D0 (tFor wi g tb) es M W := fun G0 H0 σ H D ⟨G, f, en⟩ l =>
  h σ G H _ en f.wf fun ds M1 G1 H1 J p d g1 w1 y => by
    obtain ⟨I, i0, st, fin⟩ := p
    have f1 := f.step g1 w1 d
    have l1 := l.join f1
    refine ⟨fun i m σ H => m = ds.length - i ∧ i ≤ ds.length ∧ ∃ es2 M2, I i es2 M2 ∧ At K G1 (dom M1) H1 es2 M2 σ H, ⟨ds.length, by simp, Nat.zero_le _, es, M1, i0, G1, Far.refl w1, en.up g1.gg⟩, ?_⟩
    rintro i m σ2 H2 ⟨rfl, hi, es2, M2, iv, G2, f2, en2⟩
    have yy := y M2 G2 H2 f2.gr.gg f2.wf
    by_cases c : i < ds.length
    · obtain ⟨q1, q2⟩ := yy.1 i ds[i] (List.getElem?_eq_getElem c)
      refine .inr ⟨q1, fun σ H => ∃ es2 M2, I (i + 1) es2 M2 ∧ At K G1 (dom M1) H1 es2 M2 σ H, fun σ3 H3 n3 => ⟨ds.length - (i + 1), by omega, rfl, c, n3⟩, fun x H3 hy => ?_⟩
      obtain ⟨G3, g3, w3, r3⟩ := q2 x H3 hy
      have f3 := f2.step g3 w3 rfl
      refine st i ds[i] es2 M2 (List.getElem?_eq_getElem c) iv x σ2 G3 H3 _ r3 (en2.up g3.gg) w3 fun es4 M4 σ4 G4 H4 s4 d4 g4 w4 en4 => ?_
      exact s4 G1 H1 σ4 H4 _ ⟨G4, f3.step g4 w4 d4, en4⟩ ⟨fun a b s t z k => ⟨a, b, z, k⟩, l1.rt, fun a b s t z k => l1.nx a b s t z k, fun a b s t z k => ⟨a, b, z, k⟩⟩
    · have e : i = ds.length := by omega
      subst e
      exact .inl ⟨yy.2, l1.nx es2 M2 σ2 H2 (fin es2 M2 iv) ⟨G2, f2, en2⟩⟩
/-- while, by a measure of what is known -/
theorem sj_while {c : TT} {tb : TS} (I : Nat → List Ent → MM → Prop) (n0 : Nat) (h0 : I n0 es M) (h : ∀ n es2 M2, I n es2 M2 → EvT K c es2 M2 fun b M3 => (b = true → Sj K (dom M) tb es2 M3 { nx := fun a b => ∃ m, m < n ∧ I m a b, ct := fun a b => ∃ m, m < n ∧ I m a b, bk := W.nx, rt := W.rt }) ∧ (b = false → W.nx es2 M3)) :
    Sj K D0 (tWhile c tb) es M W := fun G0 H0 σ H D ⟨G, f, en⟩ l => by
  have l1 := l.join f
  refine ⟨fun n σ H2 => ∃ es2 M2, I n es2 M2 ∧ At K G (dom M) H es2 M2 σ H2, ⟨n0, es, M, h0, G, Far.refl f.wf, en⟩, ?_⟩
  rintro n σ2 H2 ⟨es2, M2, iv, G2, f2, en2⟩
  refine h n es2 M2 iv σ2 G2 H2 _ en2 f2.wf fun b M3 G3 H3 p d g w => ?_
  have f3 := f2.step g w d
  cases b with
  | true =>
    refine iteT ⟨fun σ H2 => ∃ m, m < n ∧ ∃ es2 M2, I m es2 M2 ∧ At K G (dom M) H es2 M2 σ H2, fun σ H z => z, ?_⟩
    exact p.1 rfl G H σ2 H3 _ ⟨G3, f3, en2.up g.gg⟩ ⟨fun a b s t ⟨m, z, i⟩ k => ⟨m, z, a, b, i, k⟩, l1.rt, fun a b s t z k => l1.nx a b s t z k, fun a b s t ⟨m, z, i⟩ k => ⟨m, z, a, b, i, k⟩⟩
  | false => exact iteF (l1.nx es2 M3 σ2 H3 (p.2 rfl) ⟨G3, f3, en2.up g.gg⟩)

/-! ### comprehensions -/
def wipeE (es : List Ent) : List Nat → List Ent
  | [] => es
  | v :: vs => (wipeE es vs).set v .no
theorem En.none {σ : L2.St} (h : En K G σ es) : ∀ i, En K G (σ.set i none) (es.set i .no) := by
  induction h with
  | nil => intro i; simpa using En.nil
  | cons a b ih =>
    intro i
    cases i with
    | zero => exact .cons trivial b
    | succ i => exact .cons a (ih i)
theorem En.wipe {σ : L2.St} (h : En K G σ es) : ∀ vs, En K G (L2.wipe σ vs) (wipeE es vs)
  | [] => h
  | v :: vs => (En.wipe h vs).none v
theorem wipe_at (σ : L2.St) (j : Nat) : ∀ vs : List Nat, (L2.wipe σ vs)[j]? = if j ∈ vs ∧ j < σ.length then some none else σ[j]?
  | [] => by simp [L2.wipe]
  | v :: vs => by
    unfold L2.wipe
    rw [List.getElem?_set, wipe_at σ j vs, wipe_length]
    by_cases c : v = j
    · subst c
      by_cases d : v < σ.length
      · simp [d]
      · simp [d]
    · have c' : ¬ j = v := fun z => c z.symm
      simp [c, c']
theorem wipe_set {σ : L2.St} {i : Nat} {o : Option V} {vs : List Nat} (h : i ∈ vs) : L2.wipe (σ.set i o) vs = L2.wipe σ vs := by
  apply List.ext_getElem?
  intro j
  rw [wipe_at, wipe_at, List.length_set, List.getElem?_set]
  by_cases c : i = j
  · subst c
    by_cases d : i < σ.length
    · simp [h, d]
    · simp [d]
  · simp [c]
theorem wipe_twice (σ : L2.St) (vs : List Nat) : L2.wipe (L2.wipe σ vs) vs = L2.wipe σ vs := by
  apply List.ext_getElem?
  intro j
  rw [wipe_at, wipe_at, wipe_length]
  split <;> rfl
/-- a target that sets the block's own names alone -/
def Own (g : TG) (vs : List Nat) : Prop := ∀ x σ H Q, g x σ H Q → g x σ H fun σ2 H2 => L2.wipe σ2 vs = L2.wipe σ vs ∧ Q σ2 H2
theorem own_name {i : Nat} {vs : List Nat} (h : i ∈ vs) : Own (gName i) vs := fun x σ H Q q => ⟨wipe_set h, q⟩
end
theorem own_pair {K : PySem.W.Frag} {i j n : Nat} {vs : List Nat} (h : i ∈ vs) (h2 : j ∈ vs) : Own (gTup K n (gCons (gName i) (gCons (gName j) gNil))) vs := by
  rintro x σ H Q ⟨a, xs, e, s, l, v, r, e2, v2, r2, e3, e4, q⟩
  exact ⟨a, xs, e, s, l, v, r, e2, v2, r2, e3, e4, by rw [wipe_set h2, wipe_set h], q⟩
section
variable {K : PySem.W.Frag} {G0 G G1 H0 H H1 : Hp} {D0 : List Addr} {M M1 : MM} {es : List Ent} {W : DE} {te : TE}
theorem ev_lc {P : Ent → MM → Prop} {wi : TI} {g : TG} {tt : TT} {vs : List Nat} (ow : Own g vs) (h : Iw K wi es M fun ds M1 => ∃ J : Nat → List PyData → MM → Prop, J 0 [] M1 ∧
      (∀ k d acc M2, ds[k]? = some d → J k acc M2 → acc.length < 1000000 ∧ Tg K g (.dat d) (wipeE es vs) M2 fun es3 M3 => EvT K tt es3 M3 fun b M4 =>
        (b = true → Ev K te es3 M4 fun e M5 => ∃ d5, e = .dat d5 ∧ J (k + 1) (acc ++ [d5]) M5) ∧ (b = false → J (k + 1) acc M4)) ∧
      (∀ acc M2, J ds.length acc M2 → P (.dat (.list acc)) M2)) : Ev K (tLc wi g tt te vs) es M P := fun σ G H Q en w r =>
  h σ G H _ en w fun ds M1 G1 H1 J p d g1 w1 y => by
    obtain ⟨I, i0, st, fin⟩ := p
    have r1 := r.go d g1
    intro C hC
    have hC1 : G1 C = none := w1.none_g hC
    -- what stands at a turn: the data grown, the list at C apart
    have start : Grow (dom M1) G1 H1 G1 (upd H1 C (.lst [])) ∧ Wf K G1 M1 (upd H1 C (.lst [])) := by
      have z := w1.newM (xs := []) (ds := []) hC .nil
      exact ⟨z.2, z.1.part (List.sublist_append_left _ _)⟩
    refine ⟨fun i m H2 => m = ds.length - i ∧ i ≤ ds.length ∧ ∃ G2 M2 acc xs, I i acc M2 ∧ dom M2 = dom M1 ∧ Grow (dom M1) G1 H1 G2 H2 ∧ Wf K G2 M2 H2 ∧ H2 C = some (.lst xs) ∧ Rps K G2 xs acc ∧ G2 C = none,
      ⟨ds.length, by simp, Nat.zero_le _, G1, M1, [], [], i0, rfl, start.1, start.2, upd_same, .nil, hC1⟩, ?_⟩
    rintro i m H2 ⟨rfl, hi, G2, M2, acc, xs, iv, d2, g2, w2, hc, hx, n2⟩
    have nC : ∀ {M' : MM}, dom M' = dom M1 → C ∉ dom M' := fun e => by rw [e]; exact w1.none_m hC
    have yy := y M2 G2 H2 g2.gg w2
    by_cases c : i < ds.length
    · obtain ⟨q1, q2⟩ := yy.1 i ds[i] (List.getElem?_eq_getElem c)
      obtain ⟨hl, stp⟩ := st i ds[i] acc M2 (List.getElem?_eq_getElem c) iv
      refine .inr ⟨q1, fun H2 => ∃ G2 M2 acc xs, I (i + 1) acc M2 ∧ dom M2 = dom M1 ∧ Grow (dom M1) G1 H1 G2 H2 ∧ Wf K G2 M2 H2 ∧ H2 C = some (.lst xs) ∧ Rps K G2 xs acc ∧ G2 C = none, fun H3 n3 => ⟨ds.length - (i + 1), by omega, rfl, c, n3⟩, fun x H3 hy => ?_⟩
      obtain ⟨G3, g3, w3, r3⟩ := q2 x H3 hy
      have enw : En K G3 (L2.wipe σ vs) (wipeE es vs) := (((en.up g1.gg).up g2.gg).up g3.gg).wipe vs
      have tw : ∀ {σ2 : L2.St}, L2.wipe σ2 vs = L2.wipe (L2.wipe σ vs) vs → L2.wipe σ2 vs = L2.wipe σ vs := fun e => e.trans (wipe_twice σ vs)
      -- the target, the test, the element
      have main : g x (L2.wipe σ vs) H3 fun σ2 H4 => tt σ2 H4 fun b H5 => if b = true then te σ2 H5 fun y H6 => ∃ acc, H6 C = some (.lst acc) ∧ acc.length < sizeLine ∧ ((∃ G2 M2 acc2 xs, I (i + 1) acc2 M2 ∧ dom M2 = dom M1 ∧ Grow (dom M1) G1 H1 G2 (upd H6 C (.lst (acc ++ [y]))) ∧ Wf K G2 M2 (upd H6 C (.lst (acc ++ [y]))) ∧ (upd H6 C (.lst (acc ++ [y]))) C = some (.lst xs) ∧ Rps K G2 xs acc2 ∧ G2 C = none))
          else (∃ G2 M2 acc xs, I (i + 1) acc M2 ∧ dom M2 = dom M1 ∧ Grow (dom M1) G1 H1 G2 H5 ∧ Wf K G2 M2 H5 ∧ H5 C = some (.lst xs) ∧ Rps K G2 xs acc ∧ G2 C = none) := by
        have c3 := g3.kp C _ hc (nC d2)
        have m3 : G3 C = none := (g3.fr C (by rw [hc]; exact fun z => nomatch z)).trans n2
        refine stp x (L2.wipe σ vs) G3 H3 _ r3 enw w3 fun es4 M4 σ4 G4 H4 s4 d4 g4 w4 en4 => ?_
        have c4 := g4.kp C _ c3 (nC d2)
        have m4 : G4 C = none := (g4.fr C (by rw [c3]; exact fun z => nomatch z)).trans m3
        refine s4 σ4 G4 H4 _ en4 w4 fun b M5 G5 H5 s5 d5 g5 w5 => ?_
        have c5 := g5.kp C _ c4 (nC (d4.trans d2))
        have m5 : G5 C = none := (g5.fr C (by rw [c4]; exact fun z => nomatch z)).trans m4
        have gg5 : Grow (dom M1) G1 H1 G5 H5 := ((g2.trans (d2 ▸ g3)).trans (d2 ▸ g4)).trans ((d4.trans d2) ▸ g5)
        cases b with
        | false => exact iteF ⟨G5, M5, acc, xs, s5.2 rfl, d5.trans (d4.trans d2), gg5, w5, c5, dpsUp (((g3.gg.tr g4.gg).tr g5.gg)) _ _ hx, m5⟩
        | true =>
          refine iteT (s5.1 rfl σ4 G5 H5 _ (en4.up g5.gg) w5 fun e M6 v G6 H6 p6 d6 g6 w6 x6 => ?_)
          obtain ⟨dd, e6, i6⟩ := p6
          subst e6
          have c6 := g6.kp C _ c5 (nC (d5.trans (d4.trans d2)))
          have m6 : G6 C = none := (g6.fr C (by rw [c5]; exact fun z => nomatch z)).trans m5
          have gg6 := gg5.trans ((d5.trans (d4.trans d2)) ▸ g6)
          have hx6 : Rps K G6 xs acc := dpsUp (((g3.gg.tr g4.gg).tr g5.gg).tr g6.gg) _ _ hx
          refine ⟨xs, c6, Nat.lt_trans (by rw [dps_len hx6]; exact hl) (by decide), G6, M6, acc ++ [dd], xs ++ [v], i6, d6.trans (d5.trans (d4.trans d2)), ?_, ?_, upd_same, dps_app hx6 (.cons x6 .nil), m6⟩
          · refine ⟨gg6.gg, gg6.fr, fun a o ea na => ?_, fun a na => ?_⟩
            · rw [upd_ne (ne_of_none ea hC)]; exact gg6.kp a o ea na
            · by_cases ce : a = C
              · subst ce; exact absurd hC na
              · rw [upd_ne ce]; exact gg6.al a na
          · refine ⟨fun a u ea => ?_, fun z hz => ?_, w6.mg, w6.nd⟩
            · rw [upd_ne (ne_of_none ea m6)]; exact w6.gh a u ea
            · refine moUp (Ex.rfl' G6) (upd_ne ?_) (w6.mh z hz)
              rintro rfl
              exact nC (d6.trans (d5.trans (d4.trans d2))) (List.mem_map.mpr ⟨z, hz, rfl⟩)
      have both := ow x (L2.wipe σ vs) H3 _ main
      rw [wipe_twice] at both
      exact both
    · have e : i = ds.length := by omega
      subst e
      refine .inl ⟨yy.2, ?_⟩
      have up := Ex.add (o := HO.lst xs) n2
      refine r1 (.dat (.list acc)) M2 (.ref C) (upd G2 C (.lst xs)) H2 (fin acc M2 iv) d2 ⟨g2.gg.tr up, fun a na => ?_, g2.kp, g2.al⟩ ⟨fun a u ea => ?_, fun z hz => ?_, fun z hz => ?_, w2.nd⟩ (.lst upd_same (dpsUp up _ _ hx))
      · rw [upd_ne (by rintro rfl; exact na hC)]
        exact g2.fr a na
      · by_cases ce : a = C
        · subst ce; rw [upd_same] at ea; rw [hc]; exact ea
        · rw [upd_ne ce] at ea; exact w2.gh a u ea
      · exact moUp up rfl (w2.mh z hz)
      · rw [upd_ne (by rintro rfl; exact nC d2 (List.mem_map.mpr ⟨z, hz, rfl⟩))]
        exact w2.mg z hz
end
end Yw

set_option Elab.async false
set_option linter.all false
set_option maxRecDepth 100000
set_option maxHeartbeats 4000000
/-! Own layer F: the operations, one by one; a def's promise over data. -/
namespace Yw
open PySem PySem.Spec PyProof.Rows L2

/-! ### repr of data -/
def rShow (K : PySem.W.Frag) : List V → Hp → VK → Prop := fun xs H Q => ∃ x d, xs = [x] ∧ L2.Dp K H x d ∧ SeqAt.shaped d = true ∧ d.showable = true ∧ d.shown.length ≤ sizeLine ∧ Q (.str d.shown) H
theorem shaped_noDict {d : PyData} (h : SeqAt.shaped d = true) : d.hasDict = false := by
  unfold SeqAt.shaped at h
  rw [Bool.and_eq_true] at h
  exact PyData.hasDict_of_canLay d h.1
theorem shaped_depth {d : PyData} (h : SeqAt.shaped d = true) : d.depth ≤ 64 := by
  unfold SeqAt.shaped at h
  rw [Bool.and_eq_true] at h
  exact of_decide_eq_true h.2
theorem call_show {X : Cx} (g : X.A.guards = some []) (hu : X.A.units + 66 < cLine) : CallR X (.builtin "repr") (rShow X.K) := by
  intro pins s σ H xs us Q I r h
  obtain ⟨x, d, rfl, hd, sh, sw, sz, q⟩ := h
  cases r with
  | cons r1 r2 =>
    cases r2
    rename_i u
    obtain ⟨as, rd⟩ := Dp.reads I d x u hd r1
    have dep := shaped_depth sh
    cases u with
    | ref a => exact repr_of_reads' rd sw (PyData.noDict_hsm (shaped_noDict sh)) g (by omega) (fun _ _ e => e) (fun h' u tk k => ⟨.str d.shown, H, I.kept k, ⟨u, rfl⟩, q⟩) sz
    | none => cases rd; exact P.repr_of_none ⟨.str _, H, I.tok _, ⟨_, rfl⟩, q⟩
    | bool b => cases rd; exact P.repr_of_bool ⟨.str _, H, I.tok _, ⟨_, rfl⟩, q⟩
    | int i t => cases rd; exact P.repr_of_int (of_decide_eq_true sw) ⟨.str _, H, I.tok _, ⟨_, rfl⟩, q⟩
    | str y t => cases rd; exact P.repr_of_str ⟨.str _, H, I.tok _, ⟨_, rfl⟩, q⟩ sz
    | _ => cases rd
/-- a[i], the list read in place -/
def rIxP (K : PySem.W.Frag) : V → V → Hp → VK → Prop := fun x y H Q => ∃ p xs i v, x = .ref p ∧ y = .int i ∧ SqL K H p xs ∧ 0 ≤ i ∧ i < 2 ^ 63 ∧ xs[i.toNat]? = some v ∧ Q v H
theorem pget_list {X : Cx} : PGet X (rIxP X.K) := by
  intro pins s σ H o i ov iv Q I ro ri h
  obtain ⟨p, xs, j, v, rfl, rfl, hq, h0, h1, hv, q⟩ := h
  cases ro
  obtain ⟨t, rfl⟩ := ri
  obtain ⟨its, r, pl, hz⟩ := I.list hq
  obtain ⟨u, hu, ru⟩ := r.get hv
  exact wpAny_getItem_list pl.isList h0 h1 (by simpa using hu) ⟨v, H, I, ru, q⟩
/-- * of ints as far as the model goes -/
theorem op_mulA {X : Cx} : OpR X (binaryOp .Mult) (rI IntMulOk fun i j => .int (i * j)) := opI fun _ _ _ _ _ _ _ hc q => mul_int q hc
def CDv (_ j : Int) : Prop := j ≠ 0 ∧ j.natAbs.log2 < 9000
theorem op_divA {X : Cx} : OpR X (binaryOp .FloorDiv) (rI CDv fun i j => .int (i.fdiv j)) := opI fun _ _ _ _ _ _ _ hc q => floordiv_int hc.1 q (.inl (PyProof.noPylong_of_log2 hc.2))
theorem mulL {i j : Int} (h : -(2 ^ 64) < i ∧ i < 2 ^ 64) : IntMulOk i j := CMul.ok (.inl h)
theorem mulR {i j : Int} (h : -(2 ^ 64) < j ∧ j < 2 ^ 64) : IntMulOk i j := CMul.ok (.inr h)
theorem mulB {i j : Int} (a b : Nat) (ha : i.natAbs < 2 ^ a) (hb : j.natAbs < 2 ^ b) (h0 : 0 < a) (h1 : 0 < b) (h : a + b ≤ 1000000) : IntMulOk i j := CMulW.ok (wide_mul ha hb h0 h1 h)
theorem divB {j : Int} (b : Nat) (hb : j.natAbs < 2 ^ b) (h0 : 0 < b) (h9 : b ≤ 9000) : j.natAbs.log2 < 9000 := Nat.lt_of_lt_of_le (PySem.Flt.log2_lt_of h0 hb) h9

section
variable {K : PySem.W.Frag} {M Mb : MM} {P : Ent → MM → Prop} {i j : Int}
/-! ### ints -/
theorem o_int {g : Int → Int → Int} (p : P (.dat (.int (g i j))) M) : Op2 K (rI0 fun i j => .int (g i j)) (.dat (.int i)) (.dat (.int j)) M P := fun x y G H Q a b w r => by
  cases a; cases b; exact ⟨i, j, rfl, rfl, r.val w p (.int _)⟩
theorem o_bool {g : Int → Int → Bool} (p : P (.dat (.bool (g i j))) M) : Op2 K (rI0 fun i j => .bl (g i j)) (.dat (.int i)) (.dat (.int j)) M P := fun x y G H Q a b w r => by
  cases a; cases b; exact ⟨i, j, rfl, rfl, r.val w p (.bl _)⟩
theorem o_intC {C : Int → Int → Prop} {g : Int → Int → Int} (c : C i j) (p : P (.dat (.int (g i j))) M) : Op2 K (rI C fun i j => .int (g i j)) (.dat (.int i)) (.dat (.int j)) M P := fun x y G H Q a b w r => by
  cases a; cases b; exact ⟨i, j, rfl, rfl, c, r.val w p (.int _)⟩
theorem o_mul (c : IntMulOk i j) (p : P (.dat (.int (i * j))) M) : Op2 K (rI IntMulOk fun i j => .int (i * j)) (.dat (.int i)) (.dat (.int j)) M P := o_intC (g := fun i j => i * j) c p
theorem o_mod (c : 0 < j) (p : P (.dat (.int (i % j))) M) : Op2 K (rI (fun _ j => 0 < j) fun i j => .int (i % j)) (.dat (.int i)) (.dat (.int j)) M P := o_intC (g := fun i j => i % j) c p
theorem o_div (c : 0 < j) (b : j.natAbs.log2 < 9000) (p : P (.dat (.int (i / j))) M) : Op2 K (rI CDv fun i j => .int (i.fdiv j)) (.dat (.int i)) (.dat (.int j)) M P := o_intC (g := fun i j => i.fdiv j) ⟨by omega, b⟩ (by rw [Int.fdiv_eq_ediv_of_nonneg i (by omega)]; exact p)
theorem o_divA (c : j ≠ 0) (b : j.natAbs.log2 < 9000) (p : P (.dat (.int (i.fdiv j))) M) : Op2 K (rI CDv fun i j => .int (i.fdiv j)) (.dat (.int i)) (.dat (.int j)) M P := o_intC (g := fun i j => i.fdiv j) ⟨c, b⟩ p
theorem o_pow {n : Int} (c : CPow i j) (e : i ^ j.toNat = n) (p : P (.dat (.int n)) M) : Op2 K (rI CPow fun i j => .int (i ^ j.toNat)) (.dat (.int i)) (.dat (.int j)) M P := o_intC (g := fun i j => i ^ j.toNat) c (by rw [e]; exact p)
theorem o_neg (p : P (.dat (.int (-i))) M) : Op1 K (rU fun i => .int (-i)) (.dat (.int i)) M P := fun x G H Q a w r => by
  cases a; exact ⟨i, rfl, r.val w p (.int _)⟩
theorem o_eqI (p : P (.dat (.bool (decide (i = j)))) M) : Op2 K rEq (.dat (.int i)) (.dat (.int j)) M P := fun x y G H Q a b w r => by
  cases a; cases b
  refine ⟨rfl, ?_⟩
  rw [show decide (V.int i = V.int j) = decide (i = j) by simp]
  exact r.val w p (.bl _)
theorem o_neI (p : P (.dat (.bool (!decide (i = j)))) M) : Op2 K rNe (.dat (.int i)) (.dat (.int j)) M P := fun x y G H Q a b w r => by
  cases a; cases b
  refine ⟨rfl, ?_⟩
  rw [show decide (V.int i = V.int j) = decide (i = j) by simp]
  exact r.val w p (.bl _)
theorem o_eqS {a b : Str} (p : P (.dat (.bool (decide (a = b)))) M) : Op2 K rEq (.dat (.str a)) (.dat (.str b)) M P := fun x y G H Q u v w r => by
  cases u; cases v
  refine ⟨rfl, ?_⟩
  rw [show decide (V.str a = V.str b) = decide (a = b) by simp]
  exact r.val w p (.bl _)
theorem o_neS {a b : Str} (p : P (.dat (.bool (!decide (a = b)))) M) : Op2 K rNe (.dat (.str a)) (.dat (.str b)) M P := fun x y G H Q u v w r => by
  cases u; cases v
  refine ⟨rfl, ?_⟩
  rw [show decide (V.str a = V.str b) = decide (a = b) by simp]
  exact r.val w p (.bl _)
theorem o_eqD {d e : PyData} (h1 : SeqAt.shaped d = true) (h2 : SeqAt.shaped e = true) (p : P (.dat (.bool (PyData.eqv d e))) M) : Op2 K (rEqD K) (.dat d) (.dat e) M P := fun x y G H Q a b w r =>
  ⟨d, e, rp_dp w.gh _ _ (SeqAt.canLay_of_shaped h1) a, rp_dp w.gh _ _ (SeqAt.canLay_of_shaped h2) b, h1, h2, r.val w p (.bl _)⟩
theorem o_neD {d e : PyData} (h1 : SeqAt.shaped d = true) (h2 : SeqAt.shaped e = true) (p : P (.dat (.bool (!PyData.eqv d e))) M) : Op2 K (rNeD K) (.dat d) (.dat e) M P := fun x y G H Q a b w r =>
  ⟨d, e, rp_dp w.gh _ _ (SeqAt.canLay_of_shaped h1) a, rp_dp w.gh _ _ (SeqAt.canLay_of_shaped h2) b, h1, h2, r.val w p (.bl _)⟩
theorem o_isN {a : PyData} (p : P (.dat (.bool (match a with | .none => true | _ => false))) M) : Op2 K (fun x y H Q => y = .non ∧ Q (.bl (decide (x = .non))) H) (.dat a) (.dat .none) M P := fun x y G H Q u v w r => by
  cases v
  refine ⟨rfl, ?_⟩
  cases u <;> exact r.val w p (.bl _)
theorem o_notN {a : PyData} (p : P (.dat (.bool (match a with | .none => false | _ => true))) M) : Op2 K (fun x y H Q => y = .non ∧ Q (.bl (!decide (x = .non))) H) (.dat a) (.dat .none) M P := fun x y G H Q u v w r => by
  cases v
  refine ⟨rfl, ?_⟩
  cases u <;> exact r.val w p (.bl _)

/-! ### places -/
theorem rps_atI {G : Hp} {vs : List V} {ds : List PyData} {d : PyData} (h : Rps K G vs ds) (e : atI ds i = some d) : ∃ v, atI vs i = some v ∧ Rp K G v d := by
  unfold atI at e ⊢
  rw [dps_len h]
  cases q : ixN ds.length i with
  | none => rw [q] at e; cases e
  | some k =>
    rw [q] at e
    exact dps_at h e
theorem o_ixL {ds : List PyData} {d : PyData} (e : atI ds i = some d) (p : P (.dat d) M) : Op2 K (rIxL K) (.dat (.list ds)) (.dat (.int i)) M P := fun x y G H Q a b w r => by
  cases b
  cases a with
  | lst s h =>
    obtain ⟨v, hv, rv⟩ := rps_atI h e
    exact ⟨_, _, i, v, rfl, rfl, SqL.of (w.gh _ _ s), hv, r.val w p rv⟩
theorem o_ixT {ds : List PyData} {d : PyData} (e : atI ds i = some d) (p : P (.dat d) M) : Op2 K (rIxT K) (.dat (.tuple ds)) (.dat (.int i)) M P := fun x y G H Q a b w r => by
  cases b
  cases a with
  | tup s h =>
    obtain ⟨v, hv, rv⟩ := rps_atI h e
    exact ⟨_, _, i, v, rfl, rfl, w.gh.t s, hv, r.val w p rv⟩
/-- a list or a tuple -/
theorem o_ixA {c : PyData} {ds : List PyData} {d : PyData} (hc : c = .list ds ∨ c = .tuple ds) (e : atI ds i = some d) (p : P (.dat d) M) : Op2 K (rIx K) (.dat c) (.dat (.int i)) M P := fun x y G H Q a b w r => by
  rcases hc with rfl | rfl
  · exact .inl (o_ixL e p x y G H Q a b w r)
  · exact .inr (.inl (o_ixT e p x y G H Q a b w r))
/-- a place of what may change -/
theorem o_ixM {p : Addr} {ds : List PyData} {d : PyData} (hm : (p, MO.lst ds) ∈ M) (e : atI ds i = some d) (q : P (.dat d) M) : Op2 K (rIxL K) (.ref p) (.dat (.int i)) M P := fun x y G H Q a b w r => by
  cases b
  obtain rfl : x = .ref p := a
  obtain ⟨xs, hx, hd⟩ := w.mh _ hm
  obtain ⟨v, hv, rv⟩ := rps_atI hd e
  exact ⟨_, _, i, v, rfl, rfl, SqL.of hx, hv, r.val w q rv⟩
/-- the part lo .. hi -/
def cutY (ds : List PyData) (lo hi : Option Int) : List PyData := (ds.drop (HT.sIx ds.length 0 lo)).take (HT.sIx ds.length ds.length hi - HT.sIx ds.length 0 lo)
theorem rps_cut {G : Hp} {vs : List V} {ds : List PyData} (lo hi : Option Int) (h : Rps K G vs ds) : Rps K G (cutV vs lo hi) (cutY ds lo hi) := by
  unfold cutV cutY
  rw [dps_len h]
  exact dps_take _ (dps_drop _ h)
theorem sl_L {ds : List PyData} {lo hi : Option Int} (p : P (.dat (.list (cutY ds lo hi))) M) : Sl K (rSlL K) (.dat (.list ds)) lo hi M P := fun x G H Q a w r => by
  cases a with
  | lst s h => exact ⟨_, _, rfl, SqL.of (w.gh _ _ s), r.new w p fun a c => .lst upd_same (dpsUp (Ex.add c) _ _ (rps_cut lo hi h))⟩
theorem cut_all {ds : List PyData} {lo hi : Option Int} (h : HT.sIx ds.length 0 lo = 0 ∧ HT.sIx ds.length ds.length hi = ds.length) : cutY ds lo hi = ds := by
  unfold cutY
  rw [h.1, h.2, List.drop_zero, Nat.sub_zero, List.take_length]
theorem sl_T {ds : List PyData} {lo hi : Option Int} (p : P (.dat (.tuple (cutY ds lo hi))) M) : Sl K (rSlA K) (.dat (.tuple ds)) lo hi M P := fun x G H Q a w r => by
  cases a with
  | tup s h =>
    refine ⟨_, _, rfl, w.gh.t s, fun z => ?_, fun _ => r.new w p fun a c => .tup (.inl (.inl upd_same)) (dpsUp (Ex.add c) _ _ (rps_cut lo hi h))⟩
    rw [dps_len h] at z
    refine r.val w (e := .dat (.tuple (cutY ds lo hi))) p ?_
    rw [cut_all z]
    exact .tup s h
/-- of either kind -/
theorem o_cat {ds es : List PyData} (n : ds.length + es.length ≤ 1000000) (p : P (.dat (.list (ds ++ es))) M) : Op2 K rCat (.dat (.list ds)) (.dat (.list es)) M P := fun x y G H Q a b w r => by
  cases a with
  | lst s h =>
    cases b with
    | lst s2 h2 => exact ⟨_, _, _, _, rfl, rfl, w.gh _ _ s, w.gh _ _ s2, by rw [dps_len h, dps_len h2]; exact Nat.le_trans n (by decide), r.new w p fun a c => .lst upd_same (dps_app (dpsUp (Ex.add c) _ _ h) (dpsUp (Ex.add c) _ _ h2))⟩
theorem o_catT {ds es : List PyData} (n : ds.length + es.length ≤ 1000000) (p : P (.dat (.tuple (ds ++ es))) M) : Op2 K (rCatA K) (.dat (.tuple ds)) (.dat (.tuple es)) M P := fun x y G H Q a b w r => by
  cases a with
  | tup s h =>
    cases b with
    | tup s2 h2 =>
      refine ⟨_, _, _, _, rfl, rfl, w.gh.t s, w.gh.t s2, by rw [dps_len h, dps_len h2]; exact Nat.le_trans n (by decide), fun z => ?_, fun _ z => ?_, fun _ _ => r.new w p fun a c => .tup (.inl (.inl upd_same)) (dps_app (dpsUp (Ex.add c) _ _ h) (dpsUp (Ex.add c) _ _ h2))⟩
      · subst z; cases h
        exact r.val w (e := .dat (.tuple es)) (by simpa using p) (.tup s2 h2)
      · subst z; cases h2
        exact r.val w (e := .dat (.tuple ds)) (by simpa using p) (.tup s h)

/-! ### built-in functions -/
section
variable {as : List Ent}
theorem c_abs (p : P (.dat (.int (if i < 0 then -i else i))) M) : Cb K (fun xs H Q => ∃ i, xs = [.int i] ∧ Q (.int (if i < 0 then -i else i)) H) [.dat (.int i)] M P := fun vs G H Q a w r => by
  cases a with
  | cons x y => cases x; cases y; exact ⟨i, rfl, r.val w p (.int _)⟩
theorem c_int (p : P (.dat (.int i)) M) : Cb K (fun xs H Q => (∃ i, xs = [.int i] ∧ Q (.int i) H) ∨ ∃ k, xs = [.bl k] ∧ Q (.int (if k then 1 else 0)) H) [.dat (.int i)] M P := fun vs G H Q a w r => by
  cases a with
  | cons x y => cases x; cases y; exact .inl ⟨i, rfl, r.val w p (.int _)⟩
theorem c_min2 (p : P (.dat (.int (if j < i then j else i))) M) : Cb K (fun xs H Q => ∃ i j, xs = [.int i, .int j] ∧ Q (.int (if j < i then j else i)) H) [.dat (.int i), .dat (.int j)] M P := fun vs G H Q a w r => by
  cases a with
  | cons x y => cases x; cases y with | cons x y => cases x; cases y; exact ⟨i, j, rfl, r.val w p (.int _)⟩
theorem c_max2 (p : P (.dat (.int (if j > i then j else i))) M) : Cb K (fun xs H Q => ∃ i j, xs = [.int i, .int j] ∧ Q (.int (if j > i then j else i)) H) [.dat (.int i), .dat (.int j)] M P := fun vs G H Q a w r => by
  cases a with
  | cons x y => cases x; cases y with | cons x y => cases x; cases y; exact ⟨i, j, rfl, r.val w p (.int _)⟩
theorem c_gcd (p : P (.dat (.int (Nat.gcd i.natAbs j.natAbs : Nat))) M) : Cb K rGcd [.dat (.int i), .dat (.int j)] M P := fun vs G H Q a w r => by
  cases a with
  | cons x y => cases x; cases y with | cons x y => cases x; cases y; exact ⟨i, j, rfl, r.val w p (.int _)⟩
/-- data that is a row of things -/
inductive Sq : PyData → List PyData → Prop
  | lst (ds : List PyData) : Sq (.list ds) ds
  | tup (ds : List PyData) : Sq (.tuple ds) ds
theorem c_len {d : PyData} {ds : List PyData} (s : Sq d ds) (p : P (.dat (.int (ds.length : Nat))) M) : Cb K (fun xs H Q => ∃ p ys, xs = [.ref p] ∧ (SqL K H p ys ∨ SqT K H p ys) ∧ Q (.int ys.length) H) [.dat d] M P := fun vs G H Q a w r => by
  cases a with
  | cons x y =>
    cases y
    cases s with
    | lst =>
      cases x with
      | lst s h => exact ⟨_, _, rfl, .inl (SqL.of (w.gh _ _ s)), by rw [dps_len h]; exact r.val w p (.int _)⟩
    | tup =>
      cases x with
      | tup s h => exact ⟨_, _, rfl, .inr (w.gh.t s), by rw [dps_len h]; exact r.val w p (.int _)⟩
theorem c_list {d : PyData} {ds : List PyData} (s : Sq d ds) (p : P (.dat (.list ds)) M) : Cb K (fun xs H Q => ∃ p ys, xs = [.ref p] ∧ (SqL K H p ys ∨ SqT K H p ys) ∧ ∀ l, H l = none → Q (.ref l) (upd H l (.lst ys))) [.dat d] M P := fun vs G H Q a w r => by
  cases a with
  | cons x y =>
    cases y
    cases s with
    | lst =>
      cases x with
      | lst s h => exact ⟨_, _, rfl, .inl (SqL.of (w.gh _ _ s)), r.new w p fun a c => .lst upd_same (dpsUp (Ex.add c) _ _ h)⟩
    | tup =>
      cases x with
      | tup s h => exact ⟨_, _, rfl, .inr (w.gh.t s), r.new w p fun a c => .lst upd_same (dpsUp (Ex.add c) _ _ h)⟩
theorem c_tuple {d : PyData} {ds : List PyData} (s : Sq d ds) (p : P (.dat (.tuple ds)) M) : Cb K (fun xs H Q => ∃ p ys, xs = [.ref p] ∧ ((SqL K H p ys ∧ ∀ l, H l = none → Q (.ref l) (upd H l (.tup ys))) ∨ (SqT K H p ys ∧ Q (.ref p) H))) [.dat d] M P := fun vs G H Q a w r => by
  cases a with
  | cons x y =>
    cases y
    cases s with
    | lst =>
      cases x with
      | lst s h => exact ⟨_, _, rfl, .inl ⟨SqL.of (w.gh _ _ s), r.new w p fun a c => .tup (.inl (.inl upd_same)) (dpsUp (Ex.add c) _ _ h)⟩⟩
    | tup =>
      cases x with
      | tup s h => exact ⟨_, _, rfl, .inr ⟨w.gh.t s, r.val w p (.tup s h)⟩⟩
theorem c_show {d : PyData} (h1 : SeqAt.shaped d = true) (h2 : d.showable = true) (h3 : d.shown.length ≤ sizeLine) (p : P (.dat (.str d.shown)) M) : Cb K (rShow K) [.dat d] M P := fun vs G H Q a w r => by
  cases a with
  | cons x y => cases y; exact ⟨_, d, rfl, rp_dp w.gh _ _ (SeqAt.canLay_of_shaped h1) x, h1, h2, h3, r.val w p (.str _)⟩
theorem bools_vs {G : Hp} : ∀ {bs : List Bool} {vs : List V}, Rps K G vs (bs.map .bool) → vs = bs.map V.bl
  | [], _, h => by cases h; rfl
  | b :: bs, _, h => by
    cases h with
    | cons a t => cases a; rw [bools_vs t]; rfl
theorem c_all {bs : List Bool} (p : P (.dat (.bool (bs.all id))) M) : Cb K (rAll K) [.dat (.list (bs.map .bool))] M P := fun vs G H Q a w r => by
  cases a with
  | cons x y =>
    cases y
    cases x with
    | lst s h =>
      obtain rfl := bools_vs h
      exact ⟨_, bs, rfl, SqL.of (w.gh _ _ s), r.val w p (.bl _)⟩
end

/-! ### what may change -/
theorem ty_ref {p : Addr} {ds : List PyData} (hm : (p, MO.lst ds) ∈ M) : TyE K "list" (.ref p) M := fun x G H a w => by
  obtain rfl : x = .ref p := a
  obtain ⟨xs, hx, _⟩ := w.mh _ hm
  exact .inl ⟨rfl, xs, SqL.of hx⟩
theorem m_append {Ma : MM} {p : Addr} {ds : List PyData} {d : PyData} (e : M = Ma ++ (p, .lst ds) :: Mb) (n : ds.length ≤ 1000000) (q : P (.dat .none) (Ma ++ (p, .lst (ds ++ [d])) :: Mb)) : Mt K rAppend (.ref p) [.dat d] M P := fun x vs G H Q a b w r => by
  obtain rfl : x = .ref p := a
  subst e
  cases b with
  | cons y z =>
    cases z
    obtain ⟨xs, hx, hd⟩ := w.mh (p, .lst ds) (by simp)
    have c := w.chg (dps_app hd (.cons y .nil))
    exact ⟨p, xs, _, rfl, rfl, hx, by rw [dps_len hd]; exact Nat.lt_of_le_of_lt n (by decide), r _ _ _ _ _ q (by simp [dom]) c.2 c.1 .non⟩
theorem m_extend {Ma : MM} {p : Addr} {ds cs : List PyData} (e : M = Ma ++ (p, .lst ds) :: Mb) (n : ds.length + cs.length ≤ 1000000) (q : P (.dat .none) (Ma ++ (p, .lst (ds ++ cs)) :: Mb)) : Mt K rExtend (.ref p) [.dat (.list cs)] M P := fun x vs G H Q a b w r => by
  obtain rfl : x = .ref p := a
  subst e
  cases b with
  | cons y z =>
    cases z
    cases y with
    | lst s h =>
      obtain ⟨xs, hx, hd⟩ := w.mh (p, .lst ds) (by simp)
      have c := w.chg (dps_app hd h)
      exact ⟨p, _, xs, _, rfl, rfl, hx, w.gh _ _ s, by rw [dps_len hd, dps_len h]; exact Nat.le_trans n (by decide), r _ _ _ _ _ q (by simp [dom]) c.2 c.1 .non⟩
def rInsert : V → List V → Hp → VK → Prop := fun x vs H Q => ∃ (l : Addr) (xs : List V) (i : Int) (y : V), x = .ref l ∧ vs = [.int i, y] ∧ H l = some (.lst xs) ∧ xs.length < sizeLine ∧ 0 ≤ i ∧ i < 2 ^ 63 ∧
    Q .non (upd H l (.lst (xs.take i.toNat ++ [y] ++ xs.drop i.toNat)))
theorem m_insert {Ma : MM} {p : Addr} {ds : List PyData} {d : PyData} (e : M = Ma ++ (p, .lst ds) :: Mb) (n : ds.length ≤ 1000000) (h0 : 0 ≤ i) (h1 : i < 2 ^ 63) (q : P (.dat .none) (Ma ++ (p, .lst (ds.take i.toNat ++ [d] ++ ds.drop i.toNat)) :: Mb)) : Mt K rInsert (.ref p) [.dat (.int i), .dat d] M P := fun x vs G H Q a b w r => by
  obtain rfl : x = .ref p := a
  subst e
  cases b with
  | cons y z =>
    cases y
    cases z with
    | cons y z =>
      cases z
      obtain ⟨xs, hx, hd⟩ := w.mh (p, .lst ds) (by simp)
      have c := w.chg (dps_app (dps_app (dps_take i.toNat hd) (.cons y .nil)) (dps_drop i.toNat hd))
      exact ⟨p, xs, i, _, rfl, rfl, hx, by rw [dps_len hd]; exact Nat.lt_of_le_of_lt n (by decide), h0, h1, r _ _ _ _ _ q (by simp [dom]) c.2 c.1 .non⟩
/-- a[i] = e of what may change -/
theorem tg_sub {es : List Ent} {to ti : TE} {d : PyData} {P : List Ent → MM → Prop} (h : Ev K to es M fun a M1 => Ev K ti es M1 fun b M2 => ∃ Ma Mb p ds i k, a = .ref p ∧ b = .dat (.int i) ∧ M2 = Ma ++ (p, .lst ds) :: Mb ∧ ixN ds.length i = some k ∧ P es (Ma ++ (p, .lst (ds.set k d)) :: Mb)) :
    Tg K (gSub to ti rSetL) (.dat d) es M P := fun v σ G H Q x en w r =>
  h σ G H _ en w fun a M1 o G1 H1 ha e1 g1 w1 xa => ha σ G1 H1 _ (en.up g1.gg) w1 fun b M2 y G2 H2 hb e2 g2 w2 yb => by
    obtain ⟨Ma, Mb, p, ds, i, k, rfl, rfl, rfl, hk, q⟩ := hb
    obtain rfl : o = .ref p := xa
    cases yb
    obtain ⟨xs, hx, hd⟩ := w2.mh (p, .lst ds) (by simp)
    have c := w2.chg (dps_set k hd (dpUp (g1.gg.tr g2.gg) _ _ x))
    have r2 := (r.go e1 g1).go e2 g2
    exact ⟨p, xs, i, k, rfl, rfl, hx, by rw [dps_len hd]; exact hk, r2 _ _ _ _ _ q (by simp [dom]) c.2 c.1 ((en.up g1.gg).up g2.gg)⟩
/-- a[i] += e of ints -/
theorem sj_augS {D0 : List Addr} {W : DE} {es : List Ent} {to ti te : TE} {f : Int → Int → Int} (h : Ev K to es M fun a M1 => Ev K ti es M1 fun b M2 => ∃ p ds i k x, a = .ref p ∧ b = .dat (.int i) ∧ (p, MO.lst ds) ∈ M2 ∧ 0 ≤ i ∧ i < 2 ^ 63 ∧ i.toNat = k ∧ ds[k]? = some (.int x) ∧
      Ev K te es M2 fun c M3 => ∃ Ma Mb y, c = .dat (.int y) ∧ M3 = Ma ++ (p, .lst ds) :: Mb ∧ W.nx es (Ma ++ (p, .lst (ds.set k (.int (f x y)))) :: Mb)) :
    Sj K D0 (tAugS to ti te (rIxP K) (ipI f) rSetL) es M W := fun G0 H0 σ H D ⟨G, fr, en⟩ l =>
  h σ G H _ en fr.wf fun a M1 o G1 H1 ha e1 g1 w1 xa => ha σ G1 H1 _ (en.up g1.gg) w1 fun b M2 z G2 H2 hb e2 g2 w2 yb => by
    obtain ⟨p, ds, i, k, x, rfl, rfl, hm, h0, h1, rfl, hx, hc⟩ := hb
    obtain rfl : o = .ref p := xa
    cases yb
    obtain ⟨xs, hs, hd⟩ := w2.mh _ hm
    obtain ⟨v, hv, rv⟩ := dps_at hd hx
    cases rv
    refine ⟨p, xs, i, .int x, rfl, rfl, SqL.of hs, h0, h1, hv, hc σ G2 H2 _ ((en.up g1.gg).up g2.gg) w2 fun c M3 y G3 H3 h3 e3 g3 w3 x3 => ?_⟩
    obtain ⟨Ma, Mb, y, rfl, rfl, q⟩ := h3
    cases x3
    obtain ⟨ys, hs3, hd3⟩ := w3.mh (p, .lst ds) (by simp)
    have lt : i.toNat < ds.length := (List.getElem?_eq_some_iff.mp hx).1
    have c := w3.chg (dps_set i.toNat hd3 (.int (f x y)))
    refine ⟨x, y, rfl, rfl, p, ys, i, i.toNat, rfl, rfl, hs3, ?_, ?_⟩
    · unfold ixN
      rw [dps_len hd3, if_pos h0, if_pos (by omega)]
    · exact l.nx _ _ _ _ q ⟨G3, (((fr.step g1 w1 e1).step g2 w2 e2).step g3 w3 e3).step c.2 c.1 (by simp [dom]), ((en.up g1.gg).up g2.gg).up g3.gg⟩
/-- x += e of ints -/
theorem sj_aug {D0 : List Addr} {W : DE} {es : List Ent} {i : Nat} {te : TE} {f : Int → Int → Int} {x : Int} (e : es[i]? = some (.dat (.int x))) (h : Ev K te es M fun c M1 => ∃ y, c = .dat (.int y) ∧ W.nx (es.set i (.dat (.int (f x y)))) M1) : Sj K D0 (tAug i te (ipI f)) es M W := fun G0 H0 σ H D ⟨G, fr, en⟩ l => by
  obtain ⟨v, a, b⟩ := en.at e (fun z => nomatch z)
  cases b
  refine ⟨.int x, a, h σ G H _ en fr.wf fun c M1 u G1 H1 p d g w z => ?_⟩
  obtain ⟨y, rfl, q⟩ := p
  cases z
  exact ⟨x, y, rfl, rfl, l.nx _ _ _ _ q ⟨G1, fr.step g w d, (en.up g.gg).put (e := .dat (.int (f x y))) (Rp.int _) i⟩⟩
/-- a, b = x, y -/
theorem sj_par {D0 : List Addr} {W : DE} {es : List Ent} {i j : Nat} {ta : TA} (h : EvA K ta es M fun as M1 => ∃ a b, as = [a, b] ∧ W.nx ((es.set i a).set j b) M1) : Sj K D0 (tPar i j ta) es M W := fun G0 H0 σ H D ⟨G, fr, en⟩ l =>
  h σ G H _ en fr.wf fun as M1 vs G1 H1 p d g w x => by
    obtain ⟨a, b, rfl, q⟩ := p
    cases x with
    | cons x y =>
      cases y with
      | cons y z =>
        cases z
        exact ⟨_, _, rfl, l.nx _ _ _ _ q ⟨G1, fr.step g w d, ((en.up g.gg).put x i).put y j⟩⟩
end

/-! ### promises -/
def SpP (K : PySem.W.Frag) (pre : List PyData → Prop) (post : List PyData → PyData → Prop) : Sp := fun vs H Q _ =>
  ∃ G ds, Ex G H ∧ Rps K G vs ds ∧ pre ds ∧ ∀ d v G1 H1, post ds d → Grow [] G H G1 H1 → Ex G1 H1 → Rp K G1 v d → Q v H1
/-- the drawing bag -/
structure Bag where
  c : Int
  s : Int
  k : Int
  cs : List Int
  ok : cs.length ≤ 63
def Bag.ds (B : Bag) : List PyData := [.int B.c, .int B.s, .int B.k, .list (B.cs.map .int)]
def SpB (K : PySem.W.Frag) (pre : List PyData → Prop) (post : List PyData → PyData → Prop) : Sp := fun vs H Q _ =>
  ∃ G b B v2 ds, vs = .ref b :: v2 ∧ Wf K G [(b, .lst (Bag.ds B))] H ∧ Rps K G v2 ds ∧ pre ds ∧ ∀ d B1 v G1 H1, post ds d → Grow [b] G H G1 H1 → Wf K G1 [(b, .lst (Bag.ds B1))] H1 → Rp K G1 v d → Q v H1
section
variable {K : PySem.W.Frag} {M : MM} {P : Ent → MM → Prop} {pre : List PyData → Prop} {post : List PyData → PyData → Prop}
theorem c_P (ds : List PyData) (h : pre ds) (p : ∀ d, post ds d → P (.dat d) M) : Cb K (fun vs H Q => SpP K pre post vs H Q E0) (ds.map .dat) M P := fun vs G H Q a w r => by
  refine ⟨G, ds, w.gh, EnA.dats a, h, fun d v G1 H1 pd g e x => ?_⟩
  have w1 : Wf K G1 ([] ++ M) H1 := Wf.back (Mh := []) w g ⟨e, fun _ h => absurd h List.not_mem_nil, fun _ h => absurd h List.not_mem_nil, List.nodup_nil⟩ rfl
  exact r (.dat d) M v G1 H1 (p d pd) rfl (g.wide fun _ h => absurd h List.not_mem_nil) w1 x
theorem c_B {b : Addr} {B : Bag} {Mr : MM} (ds : List PyData) (e : M = (b, .lst B.ds) :: Mr) (h : pre ds) (p : ∀ d B1, post ds d → P (.dat d) ((b, .lst (Bag.ds B1)) :: Mr)) : Cb K (fun vs H Q => SpB K pre post vs H Q E0) (.ref b :: ds.map .dat) M P := fun vs G H Q a w r => by
  subst e
  cases a with
  | cons x y =>
    obtain rfl : _ = V.ref b := x
    refine ⟨G, b, B, _, ds, rfl, w.part (by simp), EnA.dats y, h, fun d B1 v G1 H1 pd g w1 x => ?_⟩
    have w2 : Wf K G1 ([(b, .lst B1.ds)] ++ Mr) H1 := Wf.back (Mh := [(b, .lst B.ds)]) w g w1 rfl
    exact r (.dat d) _ v G1 H1 (p d B1 pd) rfl (g.wide fun _ h => by simp [dom] at h ⊢; exact .inl h) w2 x
end
section
variable {P : Program} {w : World} {K : PySem.W.Frag} {mg : Str → Option Value} {base : Heap} {x qual : Str} {st : Stmt} {f : Addr} {fd : FuncData} {N ps : List Str} {k : Nat} {pre : List PyData → Prop} {post : List PyData → PyData → Prop}
theorem lk_fn {G0 : Hp} {D0 : List Addr} {H0 : Hp} {Q : VK} {W : DE} (h : ∀ e M v H, (W.rt e M ∨ (∃ es, W.nx es M ∧ e = .dat .none)) → AtV K G0 D0 H0 e M v H → Q v H) (b : ∀ es M, ¬ W.bk es M) (c : ∀ es M, ¬ W.ct es M) : Lk K G0 D0 H0 W { nx := fun _ H' => Q .non H', rt := Q } :=
  ⟨fun es M σ H p ⟨G, f, _⟩ => h (.dat .none) M .non H (.inr ⟨es, p, rfl⟩) ⟨G, f, .non⟩, fun e M v H p a => h e M v H (.inl p) a, fun es M σ H p _ => absurd p (b es M), fun es M σ H p _ => absurd p (c es M)⟩
theorem rps_start {G : Hp} {vs : List V} {es : List Ent} (h : EnA K G vs es) (N : List Str) (n : Nat) (e : N.length - es.length = n) : En K G (start N vs) (es ++ List.replicate n .no) := by
  have hl : ∀ {vs : List V} {es : List Ent}, EnA K G vs es → vs.length = es.length := by
    intro vs es h
    induction h with
    | nil => rfl
    | cons _ _ ih => exact congrArg (· + 1) ih
  unfold L2.start
  rw [hl h, e]
  exact En.start n h
/-- a def that changes nothing, by its body -/
theorem fnP (F : Fun K x qual st f fd) (S : FnScope N ps (defScope st)) (cnt : ∀ ds, pre ds → ds.length = ps.length) (n : Nat) (hn : N.length - ps.length = n)
    (body : ∀ (cdv : Value) (A : Around) (outer : List Env) (s : Shared) (H : Hp) (E : XK),
      (A.deeper (envOfC qual (defScope st) s.heap.objs.size f cdv)).guards = some [] →
      Room k (A.deeper (envOfC qual (defScope st) s.heap.objs.size f cdv)) →
      ∃ t, PSs (cxOf CX0 P w K mg base N qual (defScope st) f cdv A outer s H E).nox (defBody st) t ∧
        ∀ ds, pre ds → Sj K [] t (ds.map .dat ++ List.replicate n .no) [] { nx := fun _ _ => post ds .none, rt := fun e _ => ∃ d, e = .dat d ∧ post ds d }) :
    FnG P w K mg base (k + 1) f fd ps (SpP K pre post) := by
  refine fnG F S (fun vs H Q E ⟨G, ds, _, r, h, _⟩ => by rw [dps_len r]; exact cnt ds h) fun cdv A outer s H E g hr => ?_
  obtain ⟨t, ht, hs⟩ := body cdv A outer s H E g hr
  refine ⟨t, ht, fun vs Q ⟨G, ds, e, r, h, q⟩ => ?_⟩
  have w0 : Wf K G [] H := ⟨e, fun _ h => absurd h List.not_mem_nil, fun _ h => absurd h List.not_mem_nil, List.nodup_nil⟩
  refine hs ds h G H (start N vs) H _ ⟨G, Far.refl w0, rps_start (EnA.ofDats r) N n (by rw [List.length_map, cnt ds h]; exact hn)⟩ (lk_fn (fun e M v H1 p ⟨G1, f1, x⟩ => ?_) (fun _ _ z => z) fun _ _ z => z)
  have : ∃ d, e = .dat d ∧ post ds d := by
    rcases p with ⟨d, p⟩ | ⟨_, p, rfl⟩
    · exact ⟨d, p⟩
    · exact ⟨_, rfl, p⟩
  obtain ⟨d, rfl, pd⟩ := this
  exact q d v G1 H1 pd f1.gr f1.wf.gh x
end
end Yw

set_option Elab.async false
set_option linter.all false
set_option maxRecDepth 100000
set_option maxHeartbeats 4000000
/-! Own layer G: the defs of a text, their calls by name. -/
namespace Yw
open PySem PySem.Spec PyProof.Rows L2

theorem room66 {k : Nat} {A : Around} (r : Room k A) : A.units + 66 < cLine := by have := r.un; omega
/-- a def of the top as it stands -/
structure Stands (K : PySem.W.Frag) (mg : Str → Option Value) (x : Str) (st : Stmt) (ps : List Str) : Prop where
  ex : ∃ f fd, mg x = some (.ref f) ∧ Fun K x x st f fd ∧ Binds K fd ps []
/-- .. with its promise -/
structure Has (P : Program) (w : World) (K : PySem.W.Frag) (mg : Str → Option Value) (base : Heap) (k : Nat) (x : Str) (ps : List Str) (sp : Sp) : Prop where
  ex : ∃ f fd, mg x = some (.ref f) ∧ PySem.W.keepIn K (.ref f) = true ∧ Binds K fd ps [] ∧ FnG P w K mg base k f fd ps sp
theorem stands {K : PySem.W.Frag} {mg : Str → Option Value} {h : Heap} {x : Str} {st : Stmt} {ps : List Str} (X : K.In h) (G : h.Ns mainGlobals mg) {f : Addr} {od an : Option Addr} {sl : Array (Option Value)} {oc kV dc pm cd ct : Value}
    (a : PySem.W.nsIn K mainGlobals x = some (some (.ref f))) (l : K.lookup f = some ⟨oc, od, .func (PySem.W.fnOf x x (defArgs st) (defBody st) (defScope st) .none kV dc pm an cd ct), sl⟩)
    (c : PySem.W.codeIn K cd x = true) (k : PySem.W.keepIn K (.ref f) = true)
    (b : ∀ (kV doc pm : Value) (an : Option Addr) (cdv ct : Value) (us : List Value), us.length = ps.length → bindArgs (PySem.W.fnOf x x (defArgs st) (defBody st) (defScope st) .none kV doc pm an cdv ct) ⟨us, []⟩ = pure (ps.zip us)) : Stands K mg x st ps :=
  ⟨_, _, PySem.W.mg_of X G a, fun_mk l c k, (fun_mk l c k).binds b⟩
section
variable {X : Cx} {k j : Nat} {sp : Sp} {x : Str} {ps : List Str} {p pos : Pos} {e : Expr} {es : List Expr} {t : TA}
theorem peD (D : Has X.prog X.w X.K X.mg X.base k x ps sp) (g : X.A.guards = some []) (hr : Room j X.A) (h : k ≤ j) (hg : Gl X x) (ha : PA X (e :: es) t)
    (hdb : (x == ("__debug__" : Str)) = false := by decide)
    (he : starEach (e :: es) X.env = (false, eval e X.env) :: starEach es X.env := by rfl)
    (hpl : (backTo pos (starEach es X.env)).any (·.1) = false := by rfl) : PE X (.Call (.Name x p) (e :: es) [] pos) (tGo sp t) := by
  obtain ⟨f, fd, m, kp, b, F⟩ := D.ex
  exact peG F g (hr.mono h) hg m kp b ha hdb he hpl
end
section
variable {P : Program} {w : World} {K : PySem.W.Frag} {mg : Str → Option Value} {base : Heap} {x : Str} {st : Stmt} {N ps : List Str} {k : Nat} {pre : List PyData → Prop} {post : List PyData → PyData → Prop}
theorem hasP (T : Stands K mg x st ps) (S : FnScope N ps (defScope st)) (cnt : ∀ ds, pre ds → ds.length = ps.length) (n : Nat) (hn : N.length - ps.length = n)
    (body : ∀ (f : Addr) (cdv : Value) (A : Around) (outer : List Env) (s : Shared) (H : Hp) (E : XK),
      (A.deeper (envOfC x (defScope st) s.heap.objs.size f cdv)).guards = some [] →
      Room k (A.deeper (envOfC x (defScope st) s.heap.objs.size f cdv)) →
      ∃ t, PSs (cxOf CX0 P w K mg base N x (defScope st) f cdv A outer s H E).nox (defBody st) t ∧
        ∀ ds, pre ds → Sj K [] t (ds.map .dat ++ List.replicate n .no) [] { nx := fun _ _ => post ds .none, rt := fun e _ => ∃ d, e = .dat d ∧ post ds d }) :
    Has P w K mg base (k + 1) x ps (SpP K pre post) := by
  obtain ⟨f, fd, m, F, b⟩ := T.ex
  exact ⟨f, fd, m, F.kp, b, fnP F S cnt n hn (body f)⟩
end
end Yw

set_option Elab.async false
set_option linter.all false
set_option maxRecDepth 100000
set_option maxHeartbeats 4000000
/-! Own layer H: further rules: a list or a tuple walked, isinstance of data, membership, the bag made. -/
namespace Yw
open PySem PySem.Spec PyProof.Rows L2

/-- a list or a tuple is walked -/
def iSeq (K : PySem.W.Frag) (tl : TE) : TI := fun σ H R => tl σ H fun x H1 => ∃ a, x = .ref a ∧ ((∃ xs, SqL K H1 a xs ∧ R (Itl K a) H1) ∨ ∃ xs, SqT K H1 a xs ∧ R (Itt K a) H1)
theorem pi_seq {X : Cx} {tg l : Expr} {tl : TE} (hl : PE X l tl) : PI X tg l (iSeq X.K tl) := by
  refine ⟨fun pins s σ H R I h => thn (hl.run pins s σ H _ I h) fun v s1 z => ?_⟩
  obtain ⟨x, H1, I1, r1, a, e, q⟩ := z
  subst e
  cases r1
  have top : ∀ b ∈ [s1.heap.objs.size], FpOk X pins H1 b := fun b hb => by
    obtain rfl := List.mem_singleton.mp hb
    exact I1.fpOk (Nat.le_refl _) (I1.hok.fresh (Nat.le_refl _))
  rcases q with ⟨xs, hx, q⟩ | ⟨xs, hx, q⟩
  · obtain ⟨its, rv, p, _⟩ := I1.list hx
    exact wpAny_pyIter_list p.isList ⟨_, [_], _, _, H1, rfl, I1.kept (t' := s1.toks) fun _ _ e => Heap.get?_push_of_some _ e, turn_list a _, ⟨_, Heap.get?_push_size _ rfl, rfl, rfl⟩, top, q⟩
  · obtain ⟨its, rv, p, _⟩ := I1.tuple hx
    exact wpAny_pyIter_tuple (show s1.heap.IsTuple a its.toArray from p) ⟨_, [_], _, _, H1, rfl, I1.kept (t' := s1.toks) fun _ _ e => Heap.get?_push_of_some _ e, turn_tuple a _, ⟨_, Heap.get?_push_size _ rfl, rfl, rfl⟩, top, q⟩

section
variable {K : PySem.W.Frag} {M : MM} {P : Ent → MM → Prop} {es : List Ent} {te : TE}
theorem iw_seq {P : List PyData → MM → Prop} (h : Ev K te es M fun e M1 => ∃ d ds, e = .dat d ∧ Sq d ds ∧ P ds M1) : Iw K (iSeq K te) es M P := fun σ G H R en w k =>
  h σ G H _ en w fun e M1 v G1 H1 p d g w1 x => by
    obtain ⟨d0, ds, e, s, p⟩ := p
    subst e
    cases s with
    | lst =>
      cases x with
      | lst s a => exact ⟨_, rfl, .inl ⟨_, SqL.of (w1.gh _ _ s), k ds M1 G1 H1 _ p d g w1 (yl_list (SqL.of s) a)⟩⟩
    | tup =>
      cases x with
      | tup s a => exact ⟨_, rfl, .inr ⟨_, w1.gh.t s, k ds M1 G1 H1 _ p d g w1 (yl_tup s a)⟩⟩
/-- of which type data are -/
def tyD : PyData → String
  | .none => "NoneType"
  | .bool _ => "bool"
  | .int _ => "int"
  | .str _ => "str"
  | .list _ => "list"
  | .tuple _ => "tuple"
  | .dict _ => "dict"
theorem tyx_of {G H : Hp} {v : V} {d : PyData} (e : Ex G H) (h : Rp K G v d) : TyX K H v (.type (tyD d)) := by
  cases h with
  | non => exact .base .non
  | bl b => exact .base (.bl b)
  | int i => exact .base (.int i)
  | str x => exact .base (.str x)
  | lst s _ => exact .base (.lst (e _ _ s))
  | tup s _ =>
    rcases s with (s | ⟨o, s⟩) | ⟨o, its, n, l, c, _⟩
    · exact .base (.tup (e _ _ s))
    · exact .fTuple (e _ _ s)
    · exact .kTuple l c
  | dic s _ _ _ => exact .base (.dK (e _ _ s))
theorem c_isi {d : PyData} {n : String} (b : Bool) (h : kitB (tyD d) n = some b) (p : P (.dat (.bool b)) M) : Cb K (rIsi K) [.dat d, .ty n] M P := fun vs G H Q a w r => by
  cases a with
  | cons x y =>
    cases y with
    | cons y z =>
      cases z
      obtain rfl : _ = V.ty n := y
      exact ⟨_, _, _, _, b, rfl, .ty n, tyx_of w.gh x, kit_ty h, r.val w p (.bl _)⟩
end
/-- the things named, as data -/
inductive Ds : List Ent → List PyData → Prop
  | nil : Ds [] []
  | cons {d : PyData} {es : List Ent} {ds : List PyData} : Ds es ds → Ds (.dat d :: es) (d :: ds)
theorem Ds.eq : ∀ {es : List Ent} {ds : List PyData}, Ds es ds → es = ds.map .dat
  | _, _, .nil => rfl
  | _, _, .cons h => congrArg (_ :: ·) h.eq
section
variable {K : PySem.W.Frag} {M : MM} {P : Ent → MM → Prop} {es : List Ent}
theorem ev_tupD {ta : TA} (h : EvA K ta es M fun as M1 => ∃ ds, Ds as ds ∧ ds.length ≤ 100000 ∧ P (.dat (.tuple ds)) M1) : Ev K (tTup ta) es M P :=
  ev_tup fun σ G H Q en w q => h σ G H Q en w fun as M1 vs G1 H1 ⟨ds, a, b, c⟩ => q as M1 vs G1 H1 ⟨ds, a.eq, b, c⟩
theorem ev_lstD {ta : TA} (h : EvA K ta es M fun as M1 => ∃ ds, Ds as ds ∧ ds.length ≤ 100000 ∧ P (.dat (.list ds)) M1) : Ev K (tLst ta) es M P :=
  ev_lst fun σ G H Q en w q => h σ G H Q en w fun as M1 vs G1 H1 ⟨ds, a, b, c⟩ => q as M1 vs G1 H1 ⟨ds, a.eq, b, c⟩
theorem sj_newD {D0 : List Addr} {W : DE} {i : Nat} {ta : TA} (h : EvA K ta es M fun as M1 => ∃ ds, Ds as ds ∧ ds.length ≤ 100000 ∧ ∀ p, p ∉ D0 → W.nx (es.set i (.ref p)) (M1 ++ [(p, .lst ds)])) : Sj K D0 (tAsg (tLst ta) (gName i)) es M W :=
  sj_new fun σ G H Q en w q => h σ G H Q en w fun as M1 vs G1 H1 ⟨ds, a, b, c⟩ => q as M1 vs G1 H1 ⟨ds, a.eq, b, c⟩
theorem c_PD {pre : List PyData → Prop} {post : List PyData → PyData → Prop} {as : List Ent} {ds : List PyData} (e : Ds as ds) (h : pre ds) (p : ∀ d, post ds d → P (.dat d) M) : Cb K (fun vs H Q => SpP K pre post vs H Q E0) as M P := by
  rw [e.eq]; exact c_P ds h p
end
/-! ### a def that makes the bag from the script -/
def SpN (K : PySem.W.Frag) : Sp := fun vs H Q _ => ∃ (a : Addr) (ns : List Int), vs = [.ref a] ∧ SqL K H a (ns.map V.int) ∧ ns.length ≤ 63 ∧
  ∀ b B G1 H1, Wf K G1 [(b, .lst (Bag.ds B))] H1 → (∀ c ps, H c = some (.tbl ps) → H1 c = some (.tbl ps) ∧ G1 c = none ∧ c ≠ b) → Q (.ref b) H1
/-- the law itself: True comes out, whatever the script -/
def SpLaw (K : PySem.W.Frag) : Sp := fun vs H Q _ => ∃ (a : Addr) (ns : List Int), vs = [.ref a] ∧ SqL K H a (ns.map V.int) ∧ ns.length ≤ 63 ∧ ∀ H', Q (.bl true) H'
theorem cut_ints {xs : List Int} {lo hi : Option Int} : cutV (xs.map V.int) lo hi = ((xs.drop (HT.sIx xs.length 0 lo)).take (HT.sIx xs.length xs.length hi - HT.sIx xs.length 0 lo)).map V.int := by
  unfold cutV
  rw [List.length_map, List.map_take, List.map_drop]
theorem sl_scr {K : PySem.W.Frag} {M : MM} {P : Ent → MM → Prop} {ns : List Int} {lo hi : Option Int} (p : ∀ ms : List Int, ms.length ≤ ns.length → P (.dat (.list (ms.map .int))) M) : Sl K (rSlL K) (.scr ns) lo hi M P := fun x G H Q a w r => by
  obtain ⟨q, rfl, s⟩ := a
  refine ⟨q, _, rfl, w.gh.l s, ?_⟩
  rw [cut_ints]
  exact r.new w (p _ (by rw [List.length_take, List.length_drop]; omega)) fun a c => .lst upd_same (ints_dps _)
/-- the bag taken out of the data -/
theorem wf_bag {K : PySem.W.Frag} {G H : Hp} {v : V} {B : Bag} (w : Wf K G [] H) (h : Rp K G v (.list (Bag.ds B))) : ∃ b G1, v = .ref b ∧ (∀ c, G c = none → G1 c = none) ∧ Wf K G1 [(b, .lst (Bag.ds B))] H := by
  cases h with
  | @lst b xs _ s h =>
    refine ⟨b, fun x => if x = b then none else G x, rfl, (fun c hc => by by_cases z : c = b <;> simp [z, hc]), fun a o e => ?_, fun p hp => ?_, fun p hp => ?_, by simp [dom]⟩
    · by_cases c : a = b
      · rw [if_pos c] at e; cases e
      · rw [if_neg c] at e; exact w.gh a o e
    · obtain rfl := List.mem_singleton.mp hp
      refine ⟨xs, w.gh _ _ s, ?_⟩
      unfold Bag.ds at h ⊢
      cases h with
      | cons h0 h =>
        cases h with
        | cons h1 h =>
          cases h with
          | cons h2 h =>
            cases h with
            | cons h3 h =>
              cases h
              cases h0; cases h1; cases h2
              refine .cons (.int _) (.cons (.int _) (.cons (.int _) (.cons ?_ .nil)))
              cases h3 with
              | @lst c ys _ s2 h3 =>
                have ey := dps_ints h3
                have ne : c ≠ b := by
                  rintro rfl
                  rw [s] at s2
                  have e := HO.lst.inj (Option.some.inj s2)
                  rw [ey] at e
                  have z : V.ref c ∈ B.cs.map V.int := by rw [← e]; simp
                  obtain ⟨i, _, hi⟩ := List.mem_map.mp z
                  cases hi
                refine .lst (xs := ys) ?_ (ey ▸ ints_dps B.cs)
                show (if c = b then none else G c) = _
                rw [if_neg ne]; exact s2
    · obtain rfl := List.mem_singleton.mp hp
      exact if_pos rfl
section
variable {P : Program} {w : World} {K : PySem.W.Frag} {mg : Str → Option Value} {base : Heap} {x : Str} {st : Stmt} {N : List Str} {k : Nat} {sc : Str}
theorem hasN (T : Stands K mg x st [sc]) (S : FnScope N [sc] (defScope st)) (n : Nat) (hn : N.length - 1 = n)
    (body : ∀ (f : Addr) (cdv : Value) (A : Around) (outer : List Env) (s : Shared) (H : Hp) (E : XK),
      (A.deeper (envOfC x (defScope st) s.heap.objs.size f cdv)).guards = some [] →
      Room k (A.deeper (envOfC x (defScope st) s.heap.objs.size f cdv)) →
      ∃ t, PSs (cxOf CX0 P w K mg base N x (defScope st) f cdv A outer s H E).nox (defBody st) t ∧
        ∀ ns : List Int, ns.length ≤ 63 → Sj K [] t (.scr ns :: List.replicate n .no) [] { nx := fun _ _ => False, rt := fun e _ => ∃ B, e = .dat (.list (Bag.ds B)) }) :
    Has P w K mg base (k + 1) x [sc] (SpN K) := by
  obtain ⟨f, fd, m, F, b⟩ := T.ex
  refine ⟨f, fd, m, F.kp, b, fnG F S (fun vs H Q E ⟨a, ns, e, _⟩ => by rw [e]; rfl) fun cdv A outer s H E g hr => ?_⟩
  obtain ⟨t, ht, hs⟩ := body f cdv A outer s H E g hr
  refine ⟨t, ht, fun vs Q ⟨a, ns, e, h, h63, q⟩ => ?_⟩
  subst e
  obtain ⟨G0, hG0⟩ : ∃ G0 : Hp, G0 = fun c => match H c with
    | some (.tbl _) => none
    | o => o := ⟨_, rfl⟩
  have gx : Ex G0 H := fun c o e => by
    rw [hG0] at e
    dsimp only at e
    split at e
    · cases e
    · exact e
  have gt : ∀ c ps, H c = some (.tbl ps) → G0 c = none := fun c ps e => by
    rw [hG0]
    dsimp only
    rw [e]
  have gs : SqL K G0 a (ns.map V.int) := by
    rcases h with (h | ⟨o, h⟩) | h
    · exact .inl (.inl (by rw [hG0]; dsimp only; rw [h]))
    · exact .inl (.inr ⟨o, by rw [hG0]; dsimp only; rw [h]⟩)
    · exact .inr h
  have w0 : Wf K G0 [] H := ⟨gx, fun _ h => absurd h List.not_mem_nil, fun _ h => absurd h List.not_mem_nil, List.nodup_nil⟩
  refine hs ns h63 G0 H (L2.start N _) H _ ⟨G0, Far.refl w0, rps_start (es := [.scr ns]) (.cons ⟨a, rfl, gs⟩ .nil) N n hn⟩ (lk_fn (fun e M v H1 p ⟨G1, f1, y⟩ => ?_) (fun _ _ z => z) fun _ _ z => z)
  rcases p with ⟨B, rfl⟩ | ⟨_, z, _⟩
  · obtain ⟨b, G2, rfl, nn, w2⟩ := wf_bag (f1.wf.part (List.nil_sublist _)) y
    refine q b B G2 H1 w2 fun c ps hc => ?_
    have k1 := f1.gr.kp c _ hc (fun z => nomatch z)
    refine ⟨k1, nn c ((f1.gr.fr c (by rw [hc]; exact fun z => nomatch z)).trans (gt c ps hc)), ?_⟩
    rintro rfl
    obtain ⟨xs, e, _⟩ := w2.mh (c, .lst (Bag.ds B)) (by simp)
    rw [k1] at e
    cases e
  · exact z.elim
end
end Yw

set_option Elab.async false
set_option linter.all false
set_option maxRecDepth 100000
set_option maxHeartbeats 4000000
/-! Own mathematics: fractions by two whole numbers. -/
namespace Yw
abbrev fr (a b : Int) : PySem.PyData := .tuple [.int a, .int b]
def Fr (a b : Int) : Prop := 0 < b ∧ Int.gcd a b = 1
def sg (n d : Int) : Int := if d < 0 then -(Int.gcd n d : Int) else (Int.gcd n d : Int)
def redN (n d : Int) : Int := n.fdiv (sg n d)
def redD (n d : Int) : Int := d.fdiv (sg n d)
theorem gcd_pos {n d : Int} (h : d ≠ 0) : 0 < Int.gcd n d := Nat.pos_of_ne_zero fun z => h (Int.gcd_eq_zero_iff.mp z).2
theorem sg_left (n d : Int) : sg n d ∣ n := by
  unfold sg
  split
  · exact Int.neg_dvd.mpr (Int.gcd_dvd_left n d)
  · exact Int.gcd_dvd_left n d
theorem sg_right (n d : Int) : sg n d ∣ d := by
  unfold sg
  split
  · exact Int.neg_dvd.mpr (Int.gcd_dvd_right n d)
  · exact Int.gcd_dvd_right n d
theorem sg_abs (n d : Int) : (sg n d).natAbs = Int.gcd n d := by
  unfold sg
  split <;> simp
theorem sg_ne {n d : Int} (h : d ≠ 0) : sg n d ≠ 0 := fun z => by
  have e := sg_abs n d
  rw [z, Int.natAbs_zero] at e
  have g := gcd_pos (n := n) h
  omega
theorem redN_mul (n d : Int) : redN n d * sg n d = n := Int.fdiv_mul_cancel (sg_left n d)
theorem redD_mul (n d : Int) : redD n d * sg n d = d := Int.fdiv_mul_cancel (sg_right n d)
theorem redD_pos {n d : Int} (h : d ≠ 0) : 0 < redD n d := by
  have e := redD_mul n d
  have g := gcd_pos (n := n) h
  unfold sg at e
  split at e
  · rename_i neg
    by_cases c : 0 < redD n d
    · exact c
    · have : 0 ≤ redD n d * -(Int.gcd n d : Int) := Int.mul_nonneg_of_nonpos_of_nonpos (by omega) (by omega)
      omega
  · by_cases c : 0 < redD n d
    · exact c
    · have : redD n d * (Int.gcd n d : Int) ≤ 0 := Int.mul_nonpos_of_nonpos_of_nonneg (by omega) (by omega)
      omega
theorem red_cop {n d : Int} (h : d ≠ 0) : Int.gcd (redN n d) (redD n d) = 1 := by
  have g := gcd_pos (n := n) h
  have e : Int.gcd (sg n d * redN n d) (sg n d * redD n d) = (sg n d).natAbs * Int.gcd (redN n d) (redD n d) := Int.gcd_mul_left _ _ _
  rw [Int.mul_comm, redN_mul, Int.mul_comm, redD_mul, sg_abs] at e
  exact (Nat.eq_of_mul_eq_mul_left g (by rw [Nat.mul_one]; exact e)).symm
theorem red_fr {n d : Int} (h : d ≠ 0) : Fr (redN n d) (redD n d) := ⟨redD_pos h, red_cop h⟩
theorem red_eq (n d : Int) : redN n d * d = n * redD n d := by
  have a := redN_mul n d
  have b := redD_mul n d
  calc redN n d * d = redN n d * (redD n d * sg n d) := by rw [b]
    _ = (redN n d * sg n d) * redD n d := by rw [Int.mul_assoc, Int.mul_comm (redD n d)]
    _ = n * redD n d := by rw [a]
theorem abs_le_of_mul {a g n : Int} (e : a * g = n) (h : g ≠ 0) : a.natAbs ≤ n.natAbs := by
  rw [← e, Int.natAbs_mul]
  exact Nat.le_mul_of_pos_right _ (Int.natAbs_pos.mpr h)
theorem redN_le {n d : Int} (h : d ≠ 0) : (redN n d).natAbs ≤ n.natAbs := abs_le_of_mul (redN_mul n d) (sg_ne h)
theorem redD_le {n d : Int} (h : d ≠ 0) : (redD n d).natAbs ≤ d.natAbs := abs_le_of_mul (redD_mul n d) (sg_ne h)
theorem fr_dvd {x y u v : Int} (h : Int.gcd x y = 1) (e : x * v = u * y) : y.natAbs ∣ v.natAbs := by
  have c : y.natAbs.Coprime x.natAbs := by
    have : Nat.gcd x.natAbs y.natAbs = 1 := h
    exact Nat.Coprime.symm this
  refine c.dvd_of_dvd_mul_left ?_
  rw [← Int.natAbs_mul, e, Int.natAbs_mul]
  exact Nat.dvd_mul_left _ _
theorem fr_uniq {x y u v : Int} (h : Fr x y) (k : Fr u v) (e : x * v = u * y) : x = u ∧ y = v := by
  have a := fr_dvd h.2 e
  have b := fr_dvd k.2 (show u * y = x * v from e.symm)
  have c : y.natAbs = v.natAbs := Nat.dvd_antisymm a b
  have hy := h.1
  have hv := k.1
  have d : y = v := by omega
  subst d
  exact ⟨Int.eq_of_mul_eq_mul_right (by omega) e, rfl⟩
theorem red_uniq {x y n d : Int} (h : Fr x y) (hd : d ≠ 0) (e : x * d = n * y) : x = redN n d ∧ y = redD n d := by
  refine fr_uniq h (red_fr hd) ?_
  have r := red_eq n d
  have : d * (x * redD n d) = d * (redN n d * y) := by
    calc d * (x * redD n d) = (x * d) * redD n d := by rw [Int.mul_left_comm, ← Int.mul_assoc]
      _ = n * y * redD n d := by rw [e]
      _ = (n * redD n d) * y := by rw [Int.mul_right_comm]
      _ = redN n d * d * y := by rw [r]
      _ = d * (redN n d * y) := by rw [Int.mul_comm (redN n d) d, Int.mul_assoc]
  exact Int.eq_of_mul_eq_mul_left hd this
theorem red_same {x y : Int} (h : Fr x y) : redN x y = x ∧ redD x y = y := by
  have := red_uniq h (show y ≠ 0 by have := h.1; omega) (show x * y = x * y from rfl)
  exact ⟨this.1.symm, this.2.symm⟩
/-- values that are equal reduce alike -/
theorem red_congr {n d m e : Int} (hd : d ≠ 0) (he : e ≠ 0) (h : n * e = m * d) : redN n d = redN m e ∧ redD n d = redD m e := by
  refine red_uniq (red_fr hd) he ?_
  have r := red_eq n d
  have : d * (redN n d * e) = d * (m * redD n d) := by
    calc d * (redN n d * e) = redN n d * d * e := by rw [Int.mul_left_comm, ← Int.mul_assoc]
      _ = n * redD n d * e := by rw [r]
      _ = n * e * redD n d := by rw [Int.mul_right_comm]
      _ = m * d * redD n d := by rw [h]
      _ = d * (m * redD n d) := by rw [Int.mul_comm m d, Int.mul_assoc]
  exact Int.eq_of_mul_eq_mul_left hd this
/-- the short way of adding -/
theorem add_short {a b c d g n t : Int} (h : Fr a b) (k : Fr c d) (hg : g = (Int.gcd b d : Int)) (hn : n = a * (d / g) + c * (b / g)) (ht : t = (Int.gcd n g : Int)) :
    Fr (n / t) (b / t * (d / g)) ∧ n / t * (b * d) = (a * d + c * b) * (b / t * (d / g)) := by
  have b0 := h.1
  have d0 := k.1
  have gp : 0 < g := by
    have := gcd_pos (n := b) (d := d) (by omega)
    omega
  have gb : g ∣ b := hg ▸ Int.gcd_dvd_left b d
  have gd : g ∣ d := hg ▸ Int.gcd_dvd_right b d
  obtain ⟨p, hp⟩ := gb
  obtain ⟨q, hq⟩ := gd
  have eb : b / g = p := by rw [hp]; exact Int.mul_ediv_cancel_left p (by omega)
  have ed : d / g = q := by rw [hq]; exact Int.mul_ediv_cancel_left q (by omega)
  have tp : 0 < t := by
    have := gcd_pos (n := n) (d := g) (by omega)
    omega
  have tn : t ∣ n := ht ▸ Int.gcd_dvd_left n g
  have tg : t ∣ g := ht ▸ Int.gcd_dvd_right n g
  obtain ⟨x, hx⟩ := tn
  obtain ⟨y, hy⟩ := tg
  have ex : n / t = x := by rw [hx]; exact Int.mul_ediv_cancel_left x (by omega)
  have ebt : b / t = y * p := by rw [hp, hy, Int.mul_assoc]; exact Int.mul_ediv_cancel_left _ (by omega)
  have p0 : 0 < p := by
    by_cases z : 0 < p
    · exact z
    · have := Int.mul_nonpos_of_nonneg_of_nonpos (a := g) (b := p) (by omega) (by omega)
      omega
  have q0 : 0 < q := by
    by_cases z : 0 < q
    · exact z
    · have := Int.mul_nonpos_of_nonneg_of_nonpos (a := g) (b := q) (by omega) (by omega)
      omega
  have y0 : 0 < y := by
    by_cases z : 0 < y
    · exact z
    · have := Int.mul_nonpos_of_nonneg_of_nonpos (a := t) (b := y) (by omega) (by omega)
      omega
  rw [eb, ed] at hn
  rw [ex, ebt, ed]
  -- what has no common part
  have cpq : Int.gcd p q = 1 := by
    have e : Int.gcd (g * p) (g * q) = g.natAbs * Int.gcd p q := Int.gcd_mul_left g p q
    rw [← hp, ← hq] at e
    have ga : g.natAbs = Int.gcd b d := by omega
    rw [ga] at e
    exact (Nat.eq_of_mul_eq_mul_left (gcd_pos (n := b) (d := d) (by omega)) (by rw [Nat.mul_one]; exact e)).symm
  have cxy : Int.gcd x y = 1 := by
    have e : Int.gcd (t * x) (t * y) = t.natAbs * Int.gcd x y := Int.gcd_mul_left t x y
    rw [← hx, ← hy] at e
    have ta : t.natAbs = Int.gcd n g := by omega
    rw [ta] at e
    exact (Nat.eq_of_mul_eq_mul_left (gcd_pos (n := n) (d := g) (by omega)) (by rw [Nat.mul_one]; exact e)).symm
  have cop : ∀ {u v : Int}, Int.gcd u v = 1 → u.natAbs.Coprime v.natAbs := fun e => e
  have cap : a.natAbs.Coprime p.natAbs := (cop h.2).coprime_dvd_right (by rw [hp, Int.natAbs_mul]; exact Nat.dvd_mul_left _ _)
  have ccq : c.natAbs.Coprime q.natAbs := (cop k.2).coprime_dvd_right (by rw [hq, Int.natAbs_mul]; exact Nat.dvd_mul_left _ _)
  have xn : x.natAbs ∣ n.natAbs := by rw [hx, Int.natAbs_mul]; exact Nat.dvd_mul_left _ _
  have cnp : n.natAbs.Coprime p.natAbs := by
    have e : Int.gcd n p = Int.gcd (a * q) p := by rw [hn]; exact Int.gcd_add_mul_right_left p (a * q) c
    have e2 : (a * q).natAbs.Coprime p.natAbs := by
      rw [Int.natAbs_mul]
      exact Nat.Coprime.mul_left cap (Nat.Coprime.symm (cop cpq))
    exact e.trans e2
  have cnq : n.natAbs.Coprime q.natAbs := by
    have e : Int.gcd n q = Int.gcd (c * p) q := by
      rw [hn, Int.add_comm]; exact Int.gcd_add_mul_right_left q (c * p) a
    have e2 : (c * p).natAbs.Coprime q.natAbs := by
      rw [Int.natAbs_mul]
      exact Nat.Coprime.mul_left ccq (cop cpq)
    exact e.trans e2
  have fin : Int.gcd x (y * p * q) = 1 := by
    show x.natAbs.Coprime (y * p * q).natAbs
    rw [Int.natAbs_mul, Int.natAbs_mul]
    exact Nat.Coprime.mul_right (Nat.Coprime.mul_right (cop cxy) (cnp.coprime_dvd_left xn)) (cnq.coprime_dvd_left xn)
  refine ⟨⟨Int.mul_pos (Int.mul_pos y0 p0) q0, fin⟩, ?_⟩
  have en : a * d + c * b = g * n := by
    rw [hn, hq, hp, Int.mul_add, Int.mul_left_comm a g q, Int.mul_left_comm c g p]
  rw [en]
  calc x * (b * d) = x * (t * y * p * d) := by rw [hp, hy]
    _ = (t * x) * (y * p * d) := by simp only [Int.mul_assoc, Int.mul_left_comm]
    _ = n * (y * p * (g * q)) := by rw [← hx, hq]
    _ = g * n * (y * p * q) := by simp only [Int.mul_assoc, Int.mul_left_comm]
end Yw

set_option Elab.async false
set_option linter.all false
set_option maxRecDepth 100000
set_option maxHeartbeats 4000000
/-! Own layer I: promises as pairs (arguments, what is told). -/
namespace Yw
open PySem PySem.Spec PyProof.Rows L2
abbrev RR := List PyData → (PyData → Prop) → Prop
def SpQ (K : PySem.W.Frag) (R : RR) : Sp := fun vs H Q _ =>
  ∃ G ds po, Ex G H ∧ Rps K G vs ds ∧ R ds po ∧ ∀ d v G1 H1, po d → Grow [] G H G1 H1 → Ex G1 H1 → Rp K G1 v d → Q v H1
def SpD (K : PySem.W.Frag) (R : RR) : Sp := fun vs H Q _ =>
  ∃ G b B v2 ds po, vs = .ref b :: v2 ∧ Wf K G [(b, .lst (Bag.ds B))] H ∧ Rps K G v2 ds ∧ R ds po ∧ ∀ d B1 v G1 H1, po d → Grow [b] G H G1 H1 → Wf K G1 [(b, .lst (Bag.ds B1))] H1 → Rp K G1 v d → Q v H1
section
variable {K : PySem.W.Frag} {M : MM} {P : Ent → MM → Prop} {R : RR} {as : List Ent} {ds : List PyData}
theorem c_Q (e : Ds as ds) (po : PyData → Prop) (h : R ds po) (p : ∀ d, po d → P (.dat d) M) : Cb K (fun vs H Q => SpQ K R vs H Q E0) as M P := fun vs G H Q a w r => by
  rw [e.eq] at a
  obtain ⟨G0, ds0, e0, r0, h0, k⟩ := c_P (K := K) (M := M) (P := P) (pre := fun x => x = ds) (post := fun _ => po) ds rfl p vs G H Q a w r
  subst h0
  exact ⟨G0, ds0, po, e0, r0, h, k⟩
theorem c_D {b : Addr} {B : Bag} {Mr : MM} (e : Ds as ds) (po : PyData → Prop) (h : R ds po) (p : ∀ d B1, po d → P (.dat d) ((b, .lst (Bag.ds B1)) :: Mr)) : Cb K (fun vs H Q => SpD K R vs H Q E0) (.ref b :: as) ((b, .lst B.ds) :: Mr) P := fun vs G H Q a w r => by
  rw [e.eq] at a
  obtain ⟨G0, b0, B0, v2, ds0, ev, w0, r0, h0, k⟩ := c_B (K := K) (P := P) (pre := fun x => x = ds) (post := fun _ => po) ds rfl rfl p vs G H Q a w r
  subst h0
  exact ⟨G0, b0, B0, v2, ds0, po, ev, w0, r0, h, k⟩
end
section
variable {P : Program} {w : World} {K : PySem.W.Frag} {mg : Str → Option Value} {base : Heap} {x : Str} {st : Stmt} {N ps : List Str} {k : Nat} {R : RR}
theorem hasQ (T : Stands K mg x st ps) (S : FnScope N ps (defScope st)) (cnt : ∀ ds po, R ds po → ds.length = ps.length) (n : Nat) (hn : N.length - ps.length = n)
    (body : ∀ (f : Addr) (cdv : Value) (A : Around) (outer : List Env) (s : Shared) (H : Hp) (E : XK),
      (A.deeper (envOfC x (defScope st) s.heap.objs.size f cdv)).guards = some [] →
      Room k (A.deeper (envOfC x (defScope st) s.heap.objs.size f cdv)) →
      ∃ t, PSs (cxOf CX0 P w K mg base N x (defScope st) f cdv A outer s H E).nox (defBody st) t ∧
        ∀ ds po, R ds po → Sj K [] t (ds.map .dat ++ List.replicate n .no) [] { nx := fun _ _ => po .none, rt := fun e _ => ∃ d, e = .dat d ∧ po d }) :
    Has P w K mg base (k + 1) x ps (SpQ K R) := by
  obtain ⟨f, fd, m, F, b⟩ := T.ex
  refine ⟨f, fd, m, F.kp, b, fnG F S (fun vs H Q E ⟨G, ds, po, _, r, h, _⟩ => by rw [dps_len r]; exact cnt ds po h) fun cdv A outer s H E g hr => ?_⟩
  obtain ⟨t, ht, hs⟩ := body f cdv A outer s H E g hr
  refine ⟨t, ht, fun vs Q ⟨G, ds, po, e, r, h, q⟩ => ?_⟩
  have w0 : Wf K G [] H := ⟨e, fun _ h => absurd h List.not_mem_nil, fun _ h => absurd h List.not_mem_nil, List.nodup_nil⟩
  refine hs ds po h G H (L2.start N vs) H _ ⟨G, Far.refl w0, rps_start (EnA.ofDats r) N n (by rw [List.length_map, cnt ds po h]; exact hn)⟩ (lk_fn (fun e M v H1 p ⟨G1, f1, x⟩ => ?_) (fun _ _ z => z) fun _ _ z => z)
  have : ∃ d, e = .dat d ∧ po d := by
    rcases p with ⟨d, p⟩ | ⟨_, p, rfl⟩
    · exact ⟨d, p⟩
    · exact ⟨_, rfl, p⟩
  obtain ⟨d, rfl, pd⟩ := this
  exact q d v G1 H1 pd f1.gr f1.wf.gh x
theorem hasD (T : Stands K mg x st ps) (S : FnScope N ps (defScope st)) (cnt : ∀ ds po, R ds po → ds.length + 1 = ps.length) (n : Nat) (hn : N.length - ps.length = n)
    (body : ∀ (f : Addr) (cdv : Value) (A : Around) (outer : List Env) (s : Shared) (H : Hp) (E : XK),
      (A.deeper (envOfC x (defScope st) s.heap.objs.size f cdv)).guards = some [] →
      Room k (A.deeper (envOfC x (defScope st) s.heap.objs.size f cdv)) →
      ∃ t, PSs (cxOf CX0 P w K mg base N x (defScope st) f cdv A outer s H E).nox (defBody st) t ∧
        ∀ b B ds po, R ds po → Sj K [b] t (.ref b :: ds.map .dat ++ List.replicate n .no) [(b, .lst (Bag.ds B))] { nx := fun _ _ => False, rt := fun e M => ∃ d, e = .dat d ∧ (∃ B1 Mr, M = (b, .lst (Bag.ds B1)) :: Mr) ∧ po d }) :
    Has P w K mg base (k + 1) x ps (SpD K R) := by
  obtain ⟨f, fd, m, F, b⟩ := T.ex
  refine ⟨f, fd, m, F.kp, b, fnG F S (fun vs H Q E ⟨G, b, B, v2, ds, po, e, _, r, h, _⟩ => by rw [e, List.length_cons, dps_len r]; exact cnt ds po h) fun cdv A outer s H E g hr => ?_⟩
  obtain ⟨t, ht, hs⟩ := body f cdv A outer s H E g hr
  refine ⟨t, ht, fun vs Q ⟨G, b, B, v2, ds, po, e, w0, r, h, q⟩ => ?_⟩
  subst e
  refine hs b B ds po h G H (L2.start N _) H _ ⟨G, Far.refl w0, rps_start (es := .ref b :: ds.map .dat) (.cons rfl (EnA.ofDats r)) N n (by rw [List.length_cons, List.length_map, cnt ds po h]; exact hn)⟩ (lk_fn (fun e M v H1 p ⟨G1, f1, x⟩ => ?_) (fun _ _ z => z) fun _ _ z => z)
  rcases p with ⟨d, rfl, ⟨B1, Mr, rfl⟩, pd⟩ | ⟨_, z, _⟩
  · exact q d B1 v G1 H1 pd f1.gr (f1.wf.part (by simp)) x
  · exact z.elim
end
section
variable {K : PySem.W.Frag} {M : MM} {P : Ent → MM → Prop} {i : Int}
theorem o_ixS {c : PyData} {ds : List PyData} {d : PyData} (s : Sq c ds) (e : atI ds i = some d) (p : P (.dat d) M) : Op2 K (rIx K) (.dat c) (.dat (.int i)) M P :=
  o_ixA (by cases s; exact .inl rfl; exact .inr rfl) e p
end
/-! ### how long a text of data is -/
structure Wt (w dp : Nat) (d : PyData) : Prop where
  lay : d.canLay0 = true
  dep : d.depth ≤ dp
  sho : d.showable = true
  len : d.shown.length ≤ w
theorem Wt.up {w dp w2 dp2 : Nat} {d : PyData} (h : Wt w dp d) (a : w ≤ w2) (b : dp ≤ dp2) : Wt w2 dp2 d := ⟨h.lay, Nat.le_trans h.dep b, h.sho, Nat.le_trans h.len a⟩
theorem Wt.shaped {w dp : Nat} {d : PyData} (h : Wt w dp d) (b : dp ≤ 64) : SeqAt.shaped d = true := by
  unfold SeqAt.shaped
  rw [h.lay, decide_eq_true (Nat.le_trans h.dep b)]
  rfl
theorem Wt.int {a : Int} (h : a.natAbs.log2 < 1920) : Wt 1921 0 (.int a) := ⟨by simp [PyData.canLay0], by simp [PyData.depth], by simpa [PyData.showable] using h, by
  simp only [PyData.shown]
  exact PyProof.Rows.int_text_len_1921 h⟩
theorem Wt.intB {a : Int} (h : a.natAbs < 2 ^ 1920) : Wt 1921 0 (.int a) := .int (PySem.Flt.log2_lt_of (by decide) h)
theorem Wt.non : Wt 4 0 .none := ⟨by simp [PyData.canLay0], by simp [PyData.depth], by simp [PyData.showable], by
  simp only [PyData.shown]
  decide⟩
theorem all_lay : ∀ {ds : List PyData}, (∀ d ∈ ds, PyData.canLay0 d = true) → PyData.canLayAll0 ds = true
  | [], _ => by simp [PyData.canLayAll0]
  | d :: ds, h => by
    simp only [PyData.canLayAll0, Bool.and_eq_true]
    exact ⟨h d (by simp), all_lay fun e he => h e (by simp [he])⟩
theorem all_dep {n : Nat} : ∀ {ds : List PyData}, (∀ d ∈ ds, PyData.depth d ≤ n) → PyData.depthAll ds ≤ n
  | [], _ => by simp [PyData.depthAll]
  | d :: ds, h => by
    simp only [PyData.depthAll]
    exact Nat.max_le.mpr ⟨h d (by simp), all_dep fun e he => h e (by simp [he])⟩
theorem all_sho : ∀ {ds : List PyData}, (∀ d ∈ ds, PyData.showable d = true) → PyData.showableAll ds = true
  | [], _ => by simp [PyData.showableAll]
  | d :: ds, h => by
    simp only [PyData.showableAll, Bool.and_eq_true]
    exact ⟨h d (by simp), all_sho fun e he => h e (by simp [he])⟩
theorem all_len {w : Nat} : ∀ {ds : List PyData}, (∀ d ∈ ds, (PyData.shown d).length ≤ w) → ((PyData.shownAll ds).map (·.length)).sum ≤ ds.length * w ∧ (PyData.shownAll ds).length = ds.length
  | [], _ => by simp [PyData.shownAll]
  | d :: ds, h => by
    have ih := all_len (w := w) (ds := ds) fun e he => h e (by simp [he])
    have h0 := h d (by simp)
    simp only [PyData.shownAll, List.map_cons, List.sum_cons, List.length_cons]
    refine ⟨?_, by omega⟩
    rw [Nat.add_mul]
    omega
theorem Wt.list {w dp n : Nat} {ds : List PyData} (h : ∀ d ∈ ds, Wt w dp d) (hn : ds.length ≤ n) : Wt (n * (w + 2) + 3) (dp + 1) (.list ds) := by
  refine ⟨by simpa [PyData.canLay0] using all_lay fun d hd => (h d hd).lay, ?_, by simpa [PyData.showable] using all_sho fun d hd => (h d hd).sho, ?_⟩
  · simp only [PyData.depth]
    exact Nat.succ_le_succ (all_dep fun d hd => (h d hd).dep)
  · simp only [PyData.shown]
    have a := all_len (w := w) fun d hd => (h d hd).len
    have b := listText_len_le (PyData.shownAll ds)
    have c : ds.length * w ≤ n * w := Nat.mul_le_mul_right w hn
    rw [Nat.mul_add]
    omega
theorem Wt.tup {w dp n : Nat} {ds : List PyData} (h : ∀ d ∈ ds, Wt w dp d) (hn : ds.length ≤ n) : Wt (n * (w + 2) + 3) (dp + 1) (.tuple ds) := by
  refine ⟨by simpa [PyData.canLay0] using all_lay fun d hd => (h d hd).lay, ?_, by simpa [PyData.showable] using all_sho fun d hd => (h d hd).sho, ?_⟩
  · simp only [PyData.depth]
    exact Nat.succ_le_succ (all_dep fun d hd => (h d hd).dep)
  · simp only [PyData.shown]
    have a := all_len (w := w) fun d hd => (h d hd).len
    have b := tupleText_len_le (PyData.shownAll ds)
    have c : ds.length * w ≤ n * w := Nat.mul_le_mul_right w hn
    rw [Nat.mul_add]
    omega
theorem size_ok {w : Nat} {d : PyData} (h : d.shown.length ≤ w) (e : w ≤ 16000000) : d.shown.length ≤ sizeLine := Nat.le_trans h (Nat.le_trans e (by decide))
theorem eqv_self {w dp : Nat} {d : PyData} (h : Wt w dp d) : PyData.eqv d d = true := SeqAt.eqv_refl d h.lay
end Yw

set_option Elab.async false
set_option linter.all false
set_option maxRecDepth 100000
set_option maxHeartbeats 4000000
/-! Own layer J: an object that may change, lent or made fast. -/
namespace Yw
open PySem PySem.Spec PyProof.Rows L2
inductive Sub (p : Addr) (d : PyData) : List Ent → List Ent → Prop
  | nil : Sub p d [] []
  | hit {es fs : List Ent} : Sub p d es fs → Sub p d (.ref p :: es) (.dat d :: fs)
  | keep {e : Ent} {es fs : List Ent} : Sub p d es fs → Sub p d (e :: es) (e :: fs)
section
variable {K : PySem.W.Frag} {D0 : List Addr} {M : MM} {es fs : List Ent} {W : DE}
theorem En.sub {G G1 : Hp} {σ : L2.St} {p : Addr} {xs : List V} {ds : List PyData} (s : Sub p (.list ds) es fs) (x : Ex G G1) (hp : G1 p = some (.lst xs)) (hd : Rps K G1 xs ds) (h : En K G σ es) : En K G1 σ fs := by
  induction s generalizing σ with
  | nil => cases h; exact .nil
  | hit _ ih =>
    cases h with
    | @cons o _ _ _ a b =>
      refine .cons ?_ (ih b)
      cases o with
      | none => exact a.elim
      | some v =>
        obtain rfl : v = .ref p := a
        exact .lst hp hd
  | keep _ ih => cases h with | cons a b => exact .cons (a.up x) (ih b)
/-- a local object is made fast -/
theorem sj_fast {ts : TS} {p : Addr} {ds : List PyData} (Ma Mb : MM) (e : M = Ma ++ (p, .lst ds) :: Mb) (np : p ∉ D0) (s : Sub p (.list ds) es fs) (h : Sj K D0 ts fs (Ma ++ Mb) W) : Sj K D0 ts es M W := by
  intro G0 H0 σ H D ⟨G, f, en⟩ l
  subst e
  obtain ⟨xs, hx, hd⟩ := f.wf.mh (p, .lst ds) (by simp)
  have gp : G p = none := f.wf.mg (p, .lst ds) (by simp)
  have h0 : H0 p = none := (f.own p (by simp [dom])).resolve_left np
  have nd := f.wf.nd
  have sub : (Ma ++ Mb).Sublist (Ma ++ (p, MO.lst ds) :: Mb) := List.Sublist.append_left (List.sublist_cons_self _ _) _
  have out : ∀ x ∈ Ma ++ Mb, x.1 ≠ p := by
    intro x hx c
    unfold dom at nd
    rw [List.map_append, List.map_cons] at nd
    have ap := List.nodup_append.mp nd
    rcases List.mem_append.mp hx with q | q
    · exact ap.2.2 _ (List.mem_map.mpr ⟨x, q, rfl⟩) p (by simp) c
    · exact (List.nodup_cons.mp ap.2.1).1 (c ▸ List.mem_map.mpr ⟨x, q, rfl⟩)
  have w2 : Wf K (upd G p (.lst xs)) (Ma ++ Mb) H := by
    refine ⟨fun a u ea => ?_, fun x hx => ?_, fun x hx => ?_, nd.sublist (sub.map _)⟩
    · by_cases c : a = p
      · subst c; rw [upd_same] at ea; rw [hx]; exact ea
      · rw [upd_ne c] at ea; exact f.wf.gh a u ea
    · exact moUp (Ex.add gp) rfl (f.wf.mh x (sub.subset hx))
    · rw [upd_ne (out x hx)]; exact f.wf.mg x (sub.subset hx)
  refine h G0 H0 σ H D ⟨upd G p (.lst xs), ⟨⟨f.gr.gg.tr (Ex.add gp), fun a n => ?_, f.gr.kp, f.gr.al⟩, w2, fun a ha => f.own a ((sub.map _).subset ha), f.bs⟩, ?_⟩ l
  · rw [upd_ne (by rintro rfl; exact n h0)]
    exact f.gr.fr a n
  · exact en.sub s (Ex.add gp) upd_same (dpsUp (Ex.add gp) _ _ hd)
theorem lend_core {G G1 H H1 : Hp} (w : Wf K G M H) (g : Grow [] G H G1 H1) : Wf K G M H1 ∧ Grow (dom M) G H G H1 := by
  refine ⟨⟨fun a o e => g.kp a o (w.gh a o e) List.not_mem_nil, fun x hx => ?_, w.mg, w.nd⟩, ⟨Ex.rfl' G, fun _ _ => rfl, fun a o e _ => g.kp a o e List.not_mem_nil, g.al⟩⟩
  obtain ⟨o, ho⟩ := (w.mh x hx).some
  exact moUp (Ex.rfl' G) ((g.kp _ _ ho List.not_mem_nil).trans ho.symm) (w.mh x hx)
theorem lent {G H : Hp} {p : Addr} {xs : List V} (w : Wf K G M H) (hx : H p = some (.lst xs)) (gp : G p = none) : Wf K (upd G p (.lst xs)) [] H :=
  ⟨fun a u ea => by
    by_cases c : a = p
    · subst c; rw [upd_same] at ea; rw [hx]; exact ea
    · rw [upd_ne c] at ea; exact w.gh a u ea, fun _ h => absurd h List.not_mem_nil, fun _ h => absurd h List.not_mem_nil, List.nodup_nil⟩
theorem et_lend {tt : TT} {P : Bool → MM → Prop} {p : Addr} {ds : List PyData} (hm : (p, MO.lst ds) ∈ M) (s : Sub p (.list ds) es fs) (h : EvT K tt fs [] fun b _ => P b M) : EvT K tt es M P := fun σ G H Q en w r => by
  obtain ⟨xs, hx, hd⟩ := w.mh _ hm
  have gp := w.mg _ hm
  refine h σ (upd G p (.lst xs)) H Q (en.sub s (Ex.add gp) upd_same (dpsUp (Ex.add gp) _ _ hd)) (lent w hx gp) fun b M1 G1 H1 q d g w1 => ?_
  have g0 : Grow [] (upd G p (.lst xs)) H G1 H1 := g
  have z := lend_core (G := G) (G1 := G) w ⟨Ex.rfl' G, fun _ _ => rfl, g0.kp, g0.al⟩
  exact r b M G H1 q rfl z.2 z.1
theorem Ev.imp {te : TE} {P P' : Ent → MM → Prop} (h : Ev K te es M P) (k : ∀ e M, P e M → P' e M) : Ev K te es M P' := fun σ G H Q en w r => h σ G H Q en w fun e M1 v G1 H1 p => r e M1 v G1 H1 (k e M1 p)
end
end Yw

set_option Elab.async false
set_option linter.all false
set_option maxRecDepth 100000
set_option maxHeartbeats 4000000
/-! Own layer N: sizes; what the random bag, the judge of likeness and the reducing give. -/
namespace Yw
open PySem PySem.Spec PyProof.Rows L2
def Bd (k : Nat) (a : Int) : Prop := a.natAbs < 2 ^ k
theorem Bd.up {j k : Nat} {a : Int} (h : Bd j a) (e : j ≤ k) : Bd k a := Nat.lt_of_lt_of_le h (Nat.pow_le_pow_right (by decide) e)
theorem Bd.mul {j k : Nat} {a b : Int} (h : Bd j a) (e : Bd k b) : Bd (j + k) (a * b) := wide_lt h e
theorem Bd.add {k : Nat} {a b : Int} (h : Bd k a) (e : Bd k b) : Bd (k + 1) (a + b) := by
  unfold Bd at *
  rw [Nat.pow_succ]
  omega
theorem Bd.neg {k : Nat} {a : Int} (h : Bd k a) : Bd k (-a) := by unfold Bd at *; omega
theorem Bd.le {k : Nat} {a b : Int} (h : Bd k a) (e : b.natAbs ≤ a.natAbs) : Bd k b := Nat.lt_of_le_of_lt e h
theorem Bd.ok {j k : Nat} {a b : Int} (h : Bd j a) (e : Bd k b) (hj : 0 < j) (hk : 0 < k) (s : j + k ≤ 1000000) : IntMulOk a b := mulB j k h e hj hk s
theorem Bd.div {k : Nat} {b : Int} (e : Bd k b) (hk : 0 < k) (s : k ≤ 9000) : b.natAbs.log2 < 9000 := divB k e hk s
theorem mk2 {a b : Int} (h : Bd 2000 a) (e : Bd 2000 b) : IntMulOk a b := h.ok e (by decide) (by decide) (by decide)
theorem sg_bd {n d : Int} (hd : d ≠ 0) (b : Bd 8000 d) : Bd 8000 (sg n d) := by
  have h := sg_abs n d
  have : Int.gcd n d ≤ d.natAbs := Nat.le_of_dvd (Int.natAbs_pos.mpr hd) (Nat.gcd_dvd_right _ _)
  exact b.le (by omega)
structure Fq (k : Nat) (a b : Int) : Prop where
  fr : Fr a b
  n : Bd k a
  d : Bd k b
theorem Fq.ne {k : Nat} {a b : Int} (h : Fq k a b) : b ≠ 0 := by have := h.fr.1; omega
theorem Fq.up {j k : Nat} {a b : Int} (h : Fq j a b) (e : j ≤ k) : Fq k a b := ⟨h.fr, h.n.up e, h.d.up e⟩
theorem red_fq {k : Nat} {n d : Int} (h : d ≠ 0) (a : Bd k n) (b : Bd k d) : Fq k (redN n d) (redD n d) := ⟨red_fr h, a.le (redN_le h), b.le (redD_le h)⟩
theorem part_bd {k : Nat} {g b : Int} (h : Bd k b) : Bd k (b / g) := h.le (by
  by_cases z : g = 0
  · subst z; simp
  · exact Int.natAbs_ediv_le_natAbs b g)
section
variable {P : Program} {w : World} {K : PySem.W.Frag} {mg : Str → Option Value} {base : Heap}
def spRed (K : PySem.W.Frag) : Sp := SpP K (fun ds => ∃ n d, ds = [.int n, .int d] ∧ d ≠ 0 ∧ Bd 8000 n ∧ Bd 8000 d) (fun ds r => ∀ n d, ds = [.int n, .int d] → r = fr (redN n d) (redD n d))
theorem c_reduced {M : MM} {Q : Ent → MM → Prop} {n d : Int} (hd : d ≠ 0) (b1 : Bd 8000 n) (b2 : Bd 8000 d) (p : Q (.dat (fr (redN n d) (redD n d))) M) : Cb K (fun vs H Q => spRed K vs H Q E0) [.dat (.int n), .dat (.int d)] M Q :=
  c_PD (.cons (.cons .nil)) ⟨n, d, rfl, hd, b1, b2⟩ fun r h => by rw [h n d rfl]; exact p
theorem cutD_ints {xs : List Int} {lo hi : Option Int} : ∃ ys : List Int, cutY (xs.map PyData.int) lo hi = ys.map PyData.int ∧ ys.length ≤ xs.length := by
  refine ⟨(xs.drop (HT.sIx xs.length 0 lo)).take (HT.sIx xs.length xs.length hi - HT.sIx xs.length 0 lo), ?_, ?_⟩
  · unfold cutY
    rw [List.length_map, List.map_take, List.map_drop]
  · rw [List.length_take, List.length_drop]
    omega
theorem first_int {ys : List Int} : ∃ i, atI (ys.map PyData.int ++ [PyData.int 0]) 0 = some (.int i) := by
  cases ys with
  | nil => exact ⟨0, atI_nat (j := 0) rfl⟩
  | cons y r => exact ⟨y, atI_nat (j := 0) rfl⟩
def rTake : RR := fun ds po => ∃ many, ds = [.int many] ∧ 0 < many ∧ Bd 8000 many ∧ po = fun r => ∃ v, r = .int v ∧ 0 ≤ v ∧ v < many
theorem c_take {b : Addr} {C : Bag} {Mr : MM} {Q : Ent → MM → Prop} {many : Int} (h0 : 0 < many) (hb : Bd 8000 many) (p : ∀ v C1, 0 ≤ v → v < many → Q (.dat (.int v)) ((b, .lst (Bag.ds C1)) :: Mr)) :
    Cb K (fun vs H Q => SpD K rTake vs H Q E0) [.ref b, .dat (.int many)] ((b, .lst (Bag.ds C)) :: Mr) Q :=
  c_D (.cons .nil) _ ⟨many, rfl, h0, hb, rfl⟩ fun d C1 ⟨v, e, h1, h2⟩ => by rw [e]; exact p v C1 h1 h2
def rSome : RR := fun ds po => ∃ things, ds = [.list things] ∧ things ≠ [] ∧ things.length ≤ 1000 ∧ po = fun r => r ∈ things
theorem at_some {things : List PyData} {v : Int} (h0 : 0 ≤ v) (h1 : v < (things.length : Int)) : ∃ d, atI things v = some d ∧ d ∈ things := by
  have hk : v.toNat < things.length := by omega
  have e : v = ((v.toNat : Nat) : Int) := by omega
  have q : atI things ((v.toNat : Nat) : Int) = some things[v.toNat] := atI_nat (List.getElem?_eq_getElem hk)
  rw [← e] at q
  exact ⟨_, q, List.getElem_mem hk⟩
theorem c_some {b : Addr} {C : Bag} {Mr : MM} {Q : Ent → MM → Prop} {things : List PyData} (hn : things ≠ []) (hl : things.length ≤ 1000) (p : ∀ d C1, d ∈ things → Q (.dat d) ((b, .lst (Bag.ds C1)) :: Mr)) :
    Cb K (fun vs H Q => SpD K rSome vs H Q E0) [.ref b, .dat (.list things)] ((b, .lst (Bag.ds C)) :: Mr) Q :=
  c_D (.cons .nil) _ ⟨things, rfl, hn, hl, rfl⟩ fun d C1 h => p d C1 h
def rAlike : RR := fun ds po => ∃ d, ds = [d, d] ∧ Wt 1000000 20 d ∧ po = fun r => r = .bool true
theorem c_alike {M : MM} {Q : Ent → MM → Prop} {d e : PyData} (h : d = e) (hd : Wt 1000000 20 d) (p : Q (.dat (.bool true)) M) : Cb K (fun vs H Q => SpQ K rAlike vs H Q E0) [.dat d, .dat e] M Q := by
  subst h
  exact c_Q (.cons (.cons .nil)) _ ⟨d, rfl, hd, rfl⟩ fun r h => by rw [h]; exact p
theorem abs_if (i : Int) : (if i < 0 then -i else i) = (i.natAbs : Int) := by split <;> omega
theorem wt_fr {a b : Int} (h : Fq 1900 a b) : Wt 3849 1 (fr a b) := by
  refine Wt.tup (w := 1921) (dp := 0) (n := 2) (fun d hd => ?_) (Nat.le_refl 2)
  rcases List.mem_cons.mp hd with e | hd
  · subst e; exact Wt.intB (h.n.up (by decide))
  · have e := List.mem_singleton.mp hd
    subst e; exact Wt.intB (h.d.up (by decide))
theorem ixlK {X : Cx} {K : PySem.W.Frag} (h : X.K = K) : IxR X (rIxL K) := by
  rw [← h]
  exact ix_list
theorem eqv_nil {ds : List PyData} : PyData.eqv (.list ds) (.list []) = decide (ds = []) := by
  cases ds with
  | nil => rfl
  | cons d r => rfl
end
end Yw

set_option Elab.async false
set_option linter.all false
set_option maxRecDepth 100000
set_option maxHeartbeats 4000000
/-! Own layer O: a tuple read backward; sums; repeated tuples. -/
namespace Yw
open PySem PySem.Spec PyProof.Rows L2
section
variable {prog : Program} {w : World} {A : Around} {E : Value → Shared → Prop} {s : Shared}
theorem places_rev (n : Nat) : Builtin.Slice.slicePlaces ((n : Int) - 1) (-1) (-1) = n := by
  unfold Builtin.Slice.slicePlaces
  rw [if_neg (by decide)]
  by_cases h : (n : Int) - 1 > -1
  · rw [if_pos h, show (-(-1 : Int)) = 1 by decide, Int.ediv_one]
    omega
  · rw [if_neg h]
    omega
theorem sliceApplied_rev {sl : Addr} {vl vu vs : Value} {n : Nat} {Q : Int × Int × Nat → Shared → Prop} (hs : s.heap.IsSliceOf sl vl vu vs) (pl : IsPart vl none) (pu : IsPart vu none) (ps : IsPart vs (some (-1)))
    (h : Q ((n : Int) - 1, -1, n) s) : wpAny (model prog w) A (Builtin.Slice.sliceApplied (.ref sl) (pure (n : Int))) Q E s := by
  obtain ⟨os, hos, hcs, hds⟩ := id hs
  unfold Builtin.Slice.sliceApplied Builtin.Slice.sliceFields
  refine wpAny_bind (wpAny_bind (wpAny_field hos hds (x := vl) rfl (wpAny_bind (wpAny_field hos hds (x := vu) rfl (wpAny_bind (wpAny_field hos hds (x := vs) rfl (wpAny_pure ?_)))))))
  refine wpAny_bind (HT.slicePart_ ps ?_)
  show wpAny _ _ (if ((-1 : Int) == 0) = true then _ else _) _ _ s
  rw [if_neg (by decide)]
  refine wpAny_bind (HT.slicePart_ pl (wpAny_bind (HT.slicePart_ pu (wpAny_bind (wpAny_pure ?_)))))
  show wpAny _ _ (pure ((n : Int) - 1, (-1 : Int), Builtin.Slice.slicePlaces ((n : Int) - 1) (-1) (-1))) _ _ s
  rw [places_rev]
  exact wpAny_pure h
theorem pick_rev (xs : Array Value) : ((List.range xs.size).filterMap fun (m : Nat) => xs[(((xs.size : Nat) : Int) - 1 + (m : Int) * (-1)).toNat]?).toArray = xs.toList.reverse.toArray := by
  have e : (fun (m : Nat) => xs[(((xs.size : Nat) : Int) - 1 + (m : Int) * (-1)).toNat]?) = fun m => xs[xs.size - 1 - m]? := by
    funext m
    have : (((xs.size : Nat) : Int) - 1 + (m : Int) * (-1)).toNat = xs.size - 1 - m := by omega
    rw [this]
  have e2 : (List.range xs.size).filterMap (fun m => xs[xs.size - 1 - m]?) = ((List.range xs.size).map fun k => xs.size - 1 - k).filterMap (xs[·]?) := by
    rw [List.filterMap_map]
    rfl
  rw [e, e2, PySem.W.krv_range, List.filterMap_reverse, PySem.W.krv_all]
theorem getItem_tuple_rev {t sl : Addr} {items : Array Value} {vl vu vs : Value} {Q : Value → Shared → Prop} (ht : IsTup s.heap t items) (hs : s.heap.IsSliceOf sl vl vu vs) (pl : IsPart vl none) (pu : IsPart vu none) (ps : IsPart vs (some (-1)))
    (h : Q (.ref s.heap.objs.size) { s with heap := s.heap.push { cls := .type "tuple", data := .seq items.toList.reverse.toArray } })
    (hsz : items.size ≤ sizeLine) : wpAny (model prog w) A (getItem (.ref t) (.ref sl)) Q E s := by
  have htake : sizeOk (.seq items.toList.reverse.toArray) := by
    show items.toList.reverse.toArray.size ≤ sizeLine
    rw [List.size_toArray, List.length_reverse, Array.length_toList]
    exact hsz
  obtain ⟨os, hos, hcs, hds⟩ := id hs
  have hTs : s.TypeIs (.ref sl) "slice" := ⟨os, hos, hcs⟩
  unfold getItem
  try with_reducible refine wpAny_holding ?_
  first | refine wpAny_bind (wpAny_pure ?_) | skip
  refine wpAny_bind (wpAny_sequenceKey ht.typeIs (by decide) ?_)
  refine wpAny_bind (wpAny_callSpecial?_slot (name := Str.ofString "__getitem__") ht.typeIs PyProof.Rows.slot_tuple_getitem
    (wpAny_call_entry PyProof.Rows.slot_tuple_getitem ht.typeIs PyProof.Rows.entry_tuple_getitem ?_ (PyProof.Rows.args_tuple_getitem _ _)))
  show wpAny _ _ (Builtin.Tuple.tupleItemsOf (.ref t) >>= _) _ _ s
  refine wpAny_bind (tupleItemsOf_ ht ?_)
  refine wpAny_bind (wpAny_typeOf hTs ?_)
  rw [if_pos (by decide)]
  refine wpAny_bind (sliceApplied_rev hs pl pu ps ?_)
  have hno : ¬ (((((items.size : Nat) : Int) - 1) == 0 && (-1 : Int) == 1 && items.size == items.size) = true) := by
    intro q
    rw [Bool.and_eq_true, Bool.and_eq_true] at q
    exact absurd q.1.2 (by decide)
  show wpAny _ _ (if ((((items.size : Nat) : Int) - 1) == 0 && (-1 : Int) == 1 && items.size == items.size) = true then _ else _) _ _ s
  rw [if_neg hno, pick_rev]
  first
    | exact wpAny_bind (m := Builtin.Tuple.tupleExact _) (wpAny_newObj_type (wpAny_pure ⟨_, rfl, wpAny_pure h⟩) htake)
    | exact wpAny_bind (m := Builtin.Tuple.tupleExact _) (wpAny_newObj_type (wpAny_bind (wpAny_pure (wpAny_pure ⟨_, rfl, wpAny_pure h⟩))) htake)
    | exact wpAny_bind (wpAny_bind (m := Builtin.Tuple.tupleExact _) (wpAny_newObj_type (wpAny_pure (wpAny_pure ⟨_, rfl, wpAny_pure h⟩)) htake))
    | exact wpAny_bind (wpAny_bind (m := Builtin.Tuple.tupleExact _) (wpAny_newObj_type (wpAny_pure ⟨_, rfl, wpAny_pure h⟩) htake))
end
section
variable {X : Cx}
def tRevT (K : PySem.W.Frag) (te : TE) : TE := fun σ H Q => te σ H fun x H1 => ∃ a xs, x = .ref a ∧ SqT K H1 a xs ∧ ∀ p, H1 p = none → Q (.ref p) (upd H1 p (.tup xs.reverse))
theorem pe_revT {e : Expr} {te : TE} {k : Nat} {p1 p2 p3 pos : Pos} (he : PE X e te) : PE X (.Subscript e (.Slice none none (some (.UnaryOp .USub (.Constant (.int 1) k p1) p2)) p3) pos) (tRevT X.K te) := by
  refine ⟨fun pins s σ H Q I h => ?_⟩
  refine Subscript_ (thn (he.run pins s σ H _ I h) fun v s1 ⟨x, H1, I1, r1, q1⟩ => ?_)
  obtain ⟨a, xs, ex, hx, q⟩ := q1
  subst ex
  cases r1
  have hst : PO X (some (.UnaryOp .USub (.Constant (.int 1) k p1) p2)) (tPart (tUn (rU fun i => .int (-i)) (tC (.int 1)))) := po_some (pe_un un_neg pe_int)
  refine wpAny_Slice (thn (po_none.run pins s1 σ H1 (fun o H2 => o = none ∧ H2 = H1) I1 ⟨rfl, rfl⟩) fun vl s2 ⟨l, H2, I2, pl, el, e2⟩ => ?_)
  subst el e2
  refine thn (po_none.run pins s2 σ H2 (fun o H3 => o = none ∧ H3 = H2) I2 ⟨rfl, rfl⟩) fun vu s3 ⟨u, H3, I3, pu, eu, e3⟩ => ?_
  subst eu e3
  refine thn (hst.run pins s3 σ H3 (fun o H4 => o = some (-1) ∧ H4 = H3) I3 ⟨1, rfl, -1, rfl, rfl, rfl⟩) fun vs s4 ⟨o, H4, I4, ps, eo, e4⟩ => ?_
  subst eo e4
  have I5 : Inv X pins σ H4 { s4 with heap := s4.heap.push { cls := .type "slice", data := .fields #[vl, vu, vs] } } := I4.kept (t' := s4.toks) fun b ob q => Heap.get?_push_of_some _ q
  obtain ⟨its, r, ht, hz⟩ := I5.tuple hx
  have hlen := r.length
  show wpAny (model X.prog X.w) X.A (subscriptTail e (.Slice none none (some (.UnaryOp .USub (.Constant (.int 1) k p1) p2)) p3) (.ref a) (.ref s4.heap.objs.size)) (EP X pins σ Q) X.xe { s4 with heap := s4.heap.push { cls := .type "slice", data := .fields #[vl, vu, vs] } }
  refine tail_any (ops := [.ref a, .ref s4.heap.objs.size]) ht.typeIs PyProof.Rows.slot_tuple_getitem.lookup ?_ (by with_unfolding_all rfl)
  refine getItem_tuple_rev ht (Heap.IsSliceOf.new _ vl vu vs) pl pu ps ?_ (by rw [List.size_toArray]; omega)
  refine ⟨.ref _, _, I5.laid (t' := s4.toks) (o := .tup xs.reverse) (fun b ob q => Heap.get?_push_of_some _ q) (Nat.le_refl _) ?_, rfl, q _ (I5.hok.fresh (Nat.le_refl _))⟩
  exact ⟨by rw [List.length_reverse]; exact hz, _, r.reverse, IsTup.new _ _⟩
/-- sum of a list or a tuple of ints -/
def rSumA (K : PySem.W.Frag) : List V → Hp → VK → Prop := fun vs H Q => ∃ (a : Addr) (ns : List Int), vs = [V.ref a] ∧ (SqL K H a (ns.map V.int) ∨ SqT K H a (ns.map V.int)) ∧ Q (.int ns.sum) H
theorem cr_sumA (hc : X.calm = true) : CallR X (.builtin "sum") (rSumA X.K) := by
  intro pins s σ H vs us Q I r h
  obtain ⟨a, ns, rfl, hs, q⟩ := h
  rcases hs with hs | hs
  · exact cr_sum hc pins s σ H _ us Q I r ⟨a, ns, rfl, hs, q⟩
  · obtain ⟨its, rv, ht, _⟩ := I.tuple hs
    rw [Vals.ref1 r]
    have hi := rv.ints
    obtain ⟨xs, e⟩ := hi.allInts.items
    have hn : numsOf (intItems xs).toList = ns := by rw [← e]; exact hi.numsOf
    rw [nums_intItems] at hn
    rw [e] at ht
    refine PySem.W.ktm_sumG (I.ok.hd hc) ht fun h' tk t' hk => ?_
    refine ⟨.int _, H, I.kept hk, ⟨_, rfl⟩, ?_⟩
    rw [preSum_eq, List.take_of_length_le (by simp), hn]
    exact q
end
section
variable {K : PySem.W.Frag} {es : List Ent} {M : MM} {P : Ent → MM → Prop} {te : TE}
theorem rps_rev {G : Hp} : ∀ {vs : List V} {ds : List PyData}, Rps K G vs ds → Rps K G vs.reverse ds.reverse
  | _, _, .nil => .nil
  | _, _, .cons a b => by
    rw [List.reverse_cons, List.reverse_cons]
    exact dps_app (rps_rev b) (.cons a .nil)
theorem ev_revT (h : Ev K te es M fun e M1 => ∃ ds, e = .dat (.tuple ds) ∧ P (.dat (.tuple ds.reverse)) M1) : Ev K (tRevT K te) es M P := fun σ G H Q en w q =>
  h σ G H _ en w fun e M1 x G1 H1 p e1 g1 w1 xa => by
    obtain ⟨ds, e2, p⟩ := p
    subst e2
    cases xa with
    | tup s h => exact ⟨_, _, rfl, w1.gh.t s, (q.go e1 g1).new w1 p fun a c => .tup (.inl (.inl upd_same)) (dpsUp (Ex.add c) _ _ (rps_rev h))⟩
theorem c_sumA {d : PyData} {ns : List Int} (s : Sq d (ns.map PyData.int)) (p : P (.dat (.int ns.sum)) M) : Cb K (rSumA K) [.dat d] M P := fun vs G H Q a w r => by
  cases a with
  | cons x y =>
    cases y
    cases s with
    | lst =>
      cases x with
      | lst s h => exact ⟨_, ns, rfl, .inl (by rw [← dps_ints h]; exact SqL.of (w.gh _ _ s)), r.val w p (.int _)⟩
    | tup =>
      cases x with
      | tup s h => exact ⟨_, ns, rfl, .inr (by rw [← dps_ints h]; exact w.gh.t s), r.val w p (.int _)⟩
theorem ixtK {X : Cx} {K : PySem.W.Frag} (h : X.K = K) : IxR X (rIxT K) := by
  rw [← h]
  exact ix_tup
end
end Yw

set_option Elab.async false
set_option linter.all false
set_option maxRecDepth 100000
set_option maxHeartbeats 4000000
/-! Own layer P: a tuple repeated any number of times. -/
namespace Yw
open PySem PySem.Spec PyProof.Rows L2
theorem tuple_mul0 (l : Addr) (items : Array Value) (n : Nat) (dd : Option Addr) (sl : Array (Option Value)) (x : Int) (u : Tok) (c0 : (decide (x < -(2 ^ 63)) || decide (x ≥ 2 ^ 63)) = false) (c1 : (items.isEmpty || x == 1) = false) (c2 : (decide (x ≤ 0) || items.isEmpty) = true) :
    Meets (Builtin.«tuple.__mul__» ⟨[.ref l, .int x u], []⟩) (fun _ R s => s.heap.get? l = some { cls := .type "tuple", dict := dd, data := .seq items n, slots := sl } ∧
      R (.ok (.ret (Value.ref s.heap.objs.size))) { s with heap := s.heap.push { cls := Value.type "tuple", data := Data.seq #[] }, toks := s.toks }) :=
  .of_wp fun prog w A R s h => by
    obtain ⟨hp, g, d, tk, os⟩ := s
    obtain ⟨hl, h⟩ := h
    have f1 := AutoSeq1.idx_int
    have hsz : ¬ (#[] : Array Value).size > sizeLine := by decide
    wp_walk using wpAny_loadPart' hl
    repeat (first
      | (refine wpAny_ite_false (decide_eq_false (by rw [c0]; exact Bool.false_ne_true)) ?_; wp_walk using wpAny_loadPart' hl)
      | (refine wpAny_ite_false (decide_eq_false (by rw [c1]; exact Bool.false_ne_true)) ?_; wp_walk using wpAny_loadPart' hl)
      | (refine wpAny_ite_true (decide_eq_true c2) ?_; wp_walk using wpAny_loadPart' hl)
      | (refine wpAny_ite_false (decide_eq_false hsz) ?_; wp_walk using wpAny_loadPart' hl))
    exact ⟨_, rfl, h⟩
theorem tuple_mul1 (l : Addr) (items : Array Value) (n : Nat) (dd : Option Addr) (sl : Array (Option Value)) (x : Int) (u : Tok) (c0 : (decide (x < -(2 ^ 63)) || decide (x ≥ 2 ^ 63)) = false) (c1 : (items.isEmpty || x == 1) = true) :
    Meets (Builtin.«tuple.__mul__» ⟨[.ref l, .int x u], []⟩) (fun _ R s => s.heap.get? l = some { cls := .type "tuple", dict := dd, data := .seq items n, slots := sl } ∧ R (.ok (.ret (Value.ref l))) s) :=
  .of_wp fun prog w A R s h => by
    obtain ⟨hp, g, d, tk, os⟩ := s
    obtain ⟨hl, h⟩ := h
    have f1 := AutoSeq1.idx_int
    wp_walk using wpAny_loadPart' hl
    repeat (first
      | (refine wpAny_ite_false (decide_eq_false (by rw [c0]; exact Bool.false_ne_true)) ?_; wp_walk using wpAny_loadPart' hl)
      | (refine wpAny_ite_true (decide_eq_true c1) ?_; wp_walk using wpAny_loadPart' hl))
    exact ⟨_, rfl, h⟩
def rRepA (K : PySem.W.Frag) : R2 := fun x y H Q => ∃ l k xs, x = .ref l ∧ y = .int k ∧ SqT K H l xs ∧ xs ≠ [] ∧ 0 ≤ k ∧ k ≤ 1000 ∧ xs.length ≤ 1000 ∧ (k = 1 → Q (.ref l) H) ∧ (k ≠ 1 → ∀ p, H p = none → Q (.ref p) (upd H p (.tup (List.replicate k.toNat xs).flatten)))
section
variable {X : Cx}
theorem op_repA : OpR X (binaryOp .Mult) (rRepA X.K) := by
  intro pins s σ H x y v u Q I rx ry h
  obtain ⟨l, k, xs, rfl, rfl, hT, hne, h1, h2, hz, q1, q2⟩ := h
  by_cases hk : 2 ≤ k
  · exact op_repT pins s σ H _ _ v u Q I rx ry ⟨l, k, xs, rfl, rfl, hT, hne, hk, h2, hz, q2 (by omega)⟩
  cases rx
  obtain ⟨t, rfl⟩ := ry
  obtain ⟨its, r, ⟨⟨cls, dd, data, sl⟩, ho, hc, n, hd⟩, hs⟩ := I.tuple hT
  simp only at hc hd
  subst hc hd
  have hle : its.length = xs.length := r.length.symm
  have hn : its ≠ [] := fun e => hne (by
    rw [e] at hle
    exact List.eq_nil_of_length_eq_zero hle.symm)
  have hi : its.toArray.isEmpty = false := by
    cases its with
    | nil => exact absurd rfl hn
    | cons a b => rfl
  have c0 : (decide (k < -(2 ^ 63)) || decide (k ≥ 2 ^ 63)) = false := by
    rw [decide_eq_false (by omega), decide_eq_false (by omega)] <;> rfl
  by_cases hk1 : k = 1
  · have c1 : (its.toArray.isEmpty || k == 1) = true := by
      rw [hi, Bool.false_or, hk1]
      rfl
    refine wpAny_binaryOp_repeat_ref (T := "tuple") (U := "int") (by decide) ⟨_, ho, rfl⟩ (fun s' => typeIs_int s' k t) noFill_tuple_mul F.fills_int_mul F.slot_int_rmul repeat_tuple F.slot_int_index.lookup
      (call_meets F.slot_int_rmul (typeIs_int s k t) F.entry_int_rmul (F.args_int_rmul_2 _ _) (int_rmul_tuple k t l its.toArray n dd sl)
        ⟨ho, rfl, ⟨_, ho, rfl⟩, call_meets F.slot_tuple_mul ⟨_, ho, rfl⟩ F.entry_tuple_mul (F.args_tuple_mul_2 _ _) (tuple_mul1 l its.toArray n dd sl k t c0 c1) ⟨ho, ?_⟩⟩)
    exact ⟨.ref l, H, I, rfl, q1 hk1⟩
  · have hk0 : k = 0 := by omega
    have c1 : (its.toArray.isEmpty || k == 1) = false := by
      rw [hi, Bool.false_or]
      exact beq_eq_false_iff_ne.mpr hk1
    have c2 : (decide (k ≤ 0) || its.toArray.isEmpty) = true := by
      rw [decide_eq_true (by omega)]
      rfl
    refine wpAny_binaryOp_repeat_ref (T := "tuple") (U := "int") (by decide) ⟨_, ho, rfl⟩ (fun s' => typeIs_int s' k t) noFill_tuple_mul F.fills_int_mul F.slot_int_rmul repeat_tuple F.slot_int_index.lookup
      (call_meets F.slot_int_rmul (typeIs_int s k t) F.entry_int_rmul (F.args_int_rmul_2 _ _) (int_rmul_tuple k t l its.toArray n dd sl)
        ⟨ho, rfl, ⟨_, ho, rfl⟩, call_meets F.slot_tuple_mul ⟨_, ho, rfl⟩ F.entry_tuple_mul (F.args_tuple_mul_2 _ _) (tuple_mul0 l its.toArray n dd sl k t c0 c1 c2) ⟨ho, ?_⟩⟩)
    have e0 : (List.replicate k.toNat xs).flatten = [] := by rw [hk0]; rfl
    have q3 := q2 hk1
    rw [e0] at q3
    refine ⟨.ref s.heap.objs.size, _, I.laid (t' := s.toks) (o := .tup []) (fun b ob q => Heap.get?_push_of_some _ q) (Nat.le_refl _) ?_, rfl, q3 _ (I.hok.fresh (Nat.le_refl _))⟩
    exact ⟨Nat.zero_le _, [], .nil, IsTup.new _ _⟩
end
section
variable {K : PySem.W.Frag} {M : MM} {P : Ent → MM → Prop}
theorem rps_rep {G : Hp} {vs : List V} {ds : List PyData} (h : Rps K G vs ds) : ∀ n : Nat, Rps K G (List.replicate n vs).flatten (List.replicate n ds).flatten
  | 0 => .nil
  | n + 1 => by
    rw [List.replicate_succ, List.replicate_succ, List.flatten_cons, List.flatten_cons]
    exact dps_app h (rps_rep h n)
theorem o_repA {ds : List PyData} {k : Int} (hn : ds ≠ []) (h0 : 0 ≤ k) (h1 : k ≤ 1000) (hl : ds.length ≤ 1000) (p : P (.dat (.tuple (List.replicate k.toNat ds).flatten)) M) : Op2 K (rRepA K) (.dat (.tuple ds)) (.dat (.int k)) M P := fun x y G H Q a b w r => by
  cases a with
  | tup s h =>
    cases b
    refine ⟨_, k, _, rfl, rfl, w.gh.t s, fun e => hn ?_, h0, h1, by rw [dps_len h]; exact hl, fun e => ?_, fun _ => r.new w p fun a c => .tup (.inl (.inl upd_same)) (dpsUp (Ex.add c) _ _ (rps_rep h _))⟩
    · subst e; cases h; rfl
    · subst e
      have e3 : (List.replicate (1 : Int).toNat ds).flatten = ds := by simp
      rw [e3] at p
      exact r.val w (e := .dat (.tuple ds)) p (.tup s h)
end
end Yw

set_option Elab.async false
set_option linter.all false
set_option maxRecDepth 100000
set_option maxHeartbeats 4000000
/-! Own layer Q: a comprehension with two clauses. -/
namespace Yw
open PySem PySem.Spec PyProof.Rows L2
section
variable {K : PySem.W.Frag} {C : Addr} {D1 : List Addr} {G1 H1 G H G' H' : Hp} {M M' : MM} {acc : List PyData} {xs : List V} {es : List Ent} {te : TE}
end
end Yw

set_option Elab.async false
set_option linter.all false
set_option maxRecDepth 100000
set_option maxHeartbeats 4000000
/-! Own layer R: sorted of rows of ints, any number of them; a call whose new list may change. -/
namespace Yw
open PySem PySem.Spec PyProof.Rows L2
section
variable {prog : Program} {w : World} {A : Around} {E : Value → Shared → Prop} {s : Shared} {Q : Bool → Shared → Prop}
end
section
variable {X : Cx}
end
section
variable {K : PySem.W.Frag} {M : MM} {P : Ent → MM → Prop}
end
/-! ### a call whose new list may change -/
section
variable {K : PySem.W.Frag}
end
section
variable {P : Program} {w : World} {K : PySem.W.Frag} {mg : Str → Option Value} {base : Heap}
/-- the law by its body -/
theorem hasLawF {x : Str} {st : Stmt} {N : List Str} {k : Nat} {sc : Str} {f : Addr} {fd : FuncData} (F : Fun K x x st f fd) (S : FnScope N [sc] (defScope st)) (n : Nat) (hn : N.length = n + 2)
    (body : ∀ (f : Addr) (cdv : Value) (A : Around) (outer : List Env) (s : Shared) (H : Hp) (E : XK),
      (A.deeper (envOfC x (defScope st) s.heap.objs.size f cdv)).guards = some [] →
      Room k (A.deeper (envOfC x (defScope st) s.heap.objs.size f cdv)) →
      ∃ t2, PSs (cxOf CX0 P w K mg base N x (defScope st) f cdv A outer s H E).nox (defBody st) (tSeq (tAsg (tGo (SpN K) (tCons (tVar 0) tNil)) (gName 1)) t2) ∧
        ∀ b B, Sj K [b] t2 (.no :: .ref b :: List.replicate n .no) [(b, .lst (Bag.ds B))] { nx := fun _ _ => False, rt := fun e _ => e = .dat (.bool true) }) :
    FnG P w K mg base (k + 1) f fd [sc] (SpLaw K) := by
  refine fnG F S (fun vs H Q E ⟨a, ns, e, _⟩ => by rw [e]; rfl) fun cdv A outer s H E g hr => ?_
  obtain ⟨t, ht, hs⟩ := body f cdv A outer s H E g hr
  refine ⟨_, ht, fun vs Q ⟨a, ns, e, h, h63, q⟩ => ?_⟩
  subst e
  have e0 : L2.start N [.ref a] = some (.ref a) :: none :: List.replicate n none := by
    unfold L2.start
    rw [hn]
    rfl
  rw [e0]
  refine ⟨.ref a, rfl, a, ns, rfl, h, h63, fun b B G1 H1 w1 _ => ?_⟩
  refine hs b B G1 H1 _ H1 _ ⟨G1, Far.refl w1, ?_⟩ (lk_fn (fun e M v H2 p ⟨G2, f2, y⟩ => ?_) (fun _ _ z => z) fun _ _ z => z)
  · refine .cons trivial (.cons rfl ?_)
    induction n with
    | zero => exact .nil
    | succ n ih => exact .cons trivial (by
        clear hs e0 ht body hn ih
        induction n with
        | zero => exact .nil
        | succ n ih => exact .cons trivial ih)
  · rcases p with p | ⟨_, z, _⟩
    · cases p
      cases y
      exact q H2
    · exact z.elim
end
end Yw

set_option Elab.async false
set_option linter.all false
set_option maxRecDepth 100000
set_option maxHeartbeats 1000000
set_option exponentiation.threshold 20000
/-! Own layer S: fractions, rows, draws: what is promised of them, whatever the program's text. -/
namespace Yw
open PySem PySem.Spec PyProof.Rows L2
section
variable {P : Program} {w : World} {K : PySem.W.Frag} {mg : Str → Option Value} {base : Heap}
def spWhole (K : PySem.W.Frag) : Sp := SpP K (fun ds => ∃ n, ds = [.int n]) (fun ds r => ∀ n, ds = [.int n] → r = fr n 1)
theorem c_whole {M : MM} {Q : Ent → MM → Prop} {n : Int} (p : Q (.dat (fr n 1)) M) : Cb K (fun vs H Q => spWhole K vs H Q E0) [.dat (.int n)] M Q :=
  c_PD (.cons .nil) ⟨n, rfl⟩ fun r h => by rw [h n rfl]; exact p
def spNeg (K : PySem.W.Frag) : Sp := SpP K (fun ds => ∃ a b, ds = [fr a b]) (fun ds r => ∀ a b, ds = [fr a b] → r = fr (-a) b)
theorem c_negated {M : MM} {Q : Ent → MM → Prop} {a b : Int} (p : Q (.dat (fr (-a) b)) M) : Cb K (fun vs H Q => spNeg K vs H Q E0) [.dat (fr a b)] M Q :=
  c_PD (.cons .nil) ⟨a, b, rfl⟩ fun r h => by rw [h a b rfl]; exact p
def spAdd (K : PySem.W.Frag) : Sp := SpP K (fun ds => ∃ a b c d, ds = [fr a b, fr c d] ∧ Fq 2000 a b ∧ Fq 2000 c d) (fun ds r => ∀ a b c d, ds = [fr a b, fr c d] → r = fr (redN (a * d + c * b) (b * d)) (redD (a * d + c * b) (b * d)))
theorem c_added {M : MM} {Q : Ent → MM → Prop} {a b c d : Int} (h1 : Fq 2000 a b) (h2 : Fq 2000 c d) (p : Q (.dat (fr (redN (a * d + c * b) (b * d)) (redD (a * d + c * b) (b * d)))) M) : Cb K (fun vs H Q => spAdd K vs H Q E0) [.dat (fr a b), .dat (fr c d)] M Q :=
  c_PD (.cons (.cons .nil)) ⟨a, b, c, d, rfl, h1, h2⟩ fun r h => by rw [h a b c d rfl]; exact p
def spSub (K : PySem.W.Frag) : Sp := SpP K (fun ds => ∃ a b c d, ds = [fr a b, fr c d] ∧ Fq 2000 a b ∧ Fq 2000 c d) (fun ds r => ∀ a b c d, ds = [fr a b, fr c d] → r = fr (redN (a * d - c * b) (b * d)) (redD (a * d - c * b) (b * d)))
theorem c_lessened {M : MM} {Q : Ent → MM → Prop} {a b c d : Int} (h1 : Fq 2000 a b) (h2 : Fq 2000 c d) (p : Q (.dat (fr (redN (a * d - c * b) (b * d)) (redD (a * d - c * b) (b * d)))) M) : Cb K (fun vs H Q => spSub K vs H Q E0) [.dat (fr a b), .dat (fr c d)] M Q :=
  c_PD (.cons (.cons .nil)) ⟨a, b, c, d, rfl, h1, h2⟩ fun r h => by rw [h a b c d rfl]; exact p
/-- -1, 0 or 1 -/
def cmp3 (n m : Int) : Int := if n = m then 0 else if n < m then -1 else 1
def spCmp (K : PySem.W.Frag) : Sp := SpP K (fun ds => ∃ a b c d, ds = [fr a b, fr c d] ∧ Fq 2000 a b ∧ Fq 2000 c d) (fun ds r => ∀ a b c d, ds = [fr a b, fr c d] → r = .int (cmp3 (a * d) (c * b)))
theorem c_compared {M : MM} {Q : Ent → MM → Prop} {a b c d : Int} (h1 : Fq 2000 a b) (h2 : Fq 2000 c d) (p : Q (.dat (.int (cmp3 (a * d) (c * b)))) M) : Cb K (fun vs H Q => spCmp K vs H Q E0) [.dat (fr a b), .dat (fr c d)] M Q :=
  c_PD (.cons (.cons .nil)) ⟨a, b, c, d, rfl, h1, h2⟩ fun r h => by rw [h a b c d rfl]; exact p
abbrev frq (q : Int × Int) : PyData := fr q.1 q.2
abbrev frs (qs : List (Int × Int)) : List PyData := qs.map frq
theorem frs_at {qs : List (Int × Int)} {k : Nat} {d : PyData} (h : (frs qs)[k]? = some d) : ∃ q, qs[k]? = some q ∧ q ∈ qs ∧ d = frq q := by
  rw [List.getElem?_map] at h
  cases e : qs[k]? with
  | none => rw [e] at h; cases h
  | some q => rw [e] at h; exact ⟨q, rfl, List.mem_of_getElem? e, (Option.some.inj h).symm⟩
abbrev FqQ (k : Nat) (q : Int × Int) : Prop := Fq k q.1 q.2
theorem cmp3_le {n m : Int} : cmp3 n m ≤ 0 ↔ n ≤ m := by
  unfold cmp3
  split
  · omega
  · split <;> omega
/-- an order of fractions -/
def leq (p q : Int × Int) : Prop := p.1 * q.2 ≤ q.1 * p.2
theorem leq_trans {p q r : Int × Int} (hp : 0 < p.2) (hq : 0 < q.2) (hr : 0 < r.2) (a : leq p q) (b : leq q r) : leq p r := by
  unfold leq at *
  have h1 : p.1 * q.2 * r.2 ≤ q.1 * p.2 * r.2 := Int.mul_le_mul_of_nonneg_right a (by omega)
  have h2 : q.1 * r.2 * p.2 ≤ r.1 * q.2 * p.2 := Int.mul_le_mul_of_nonneg_right b (by omega)
  have h3 : q.2 * (p.1 * r.2) ≤ q.2 * (r.1 * p.2) := by
    calc q.2 * (p.1 * r.2) = p.1 * q.2 * r.2 := by rw [Int.mul_left_comm, ← Int.mul_assoc]
      _ ≤ q.1 * p.2 * r.2 := h1
      _ = q.1 * r.2 * p.2 := Int.mul_right_comm _ _ _
      _ ≤ r.1 * q.2 * p.2 := h2
      _ = q.2 * (r.1 * p.2) := by rw [Int.mul_comm r.1, Int.mul_assoc]
  exact Int.le_of_mul_le_mul_left h3 hq
theorem leq_total (p q : Int × Int) : leq p q ∨ leq q p := by unfold leq; omega
theorem cons_of {α : Type} {l : List α} (h : l ≠ []) : ∃ a r, l = a :: r := by
  cases l with
  | nil => exact absurd rfl h
  | cons a r => exact ⟨a, r, rfl⟩
/-- the sum, step by step -/
def qadd (p q : Int × Int) : Int × Int := (redN (p.1 * q.2 + q.1 * p.2) (p.2 * q.2), redD (p.1 * q.2 + q.1 * p.2) (p.2 * q.2))
theorem qadd_fq {j k : Nat} {p q : Int × Int} (hp : FqQ j p) (hq : FqQ k q) : FqQ (j + k + 1) (qadd p q) := by
  have z : p.2 * q.2 ≠ 0 := Int.mul_ne_zero hp.ne hq.ne
  refine red_fq z ?_ ((hp.d.mul hq.d).up (by omega))
  exact Bd.add (hp.n.mul hq.d) ((hq.n.mul hp.d).up (by omega))
instance (p q : Int × Int) : Decidable (leq p q) := inferInstanceAs (Decidable (_ ≤ _))
theorem isi_ii {i : Int} (p : Q (.dat (.bool true)) M) : Cb K (rIsi K) [.dat (.int i), .ty "int"] M Q := c_isi true (show kitB "int" "int" = some true by decide +kernel) p
theorem isi_ib {i : Int} (p : Q (.dat (.bool false)) M) : Cb K (rIsi K) [.dat (.int i), .ty "bool"] M Q := c_isi false (show kitB "int" "bool" = some false by decide +kernel) p
theorem isi_tt {ds : List PyData} (p : Q (.dat (.bool true)) M) : Cb K (rIsi K) [.dat (.tuple ds), .ty "tuple"] M Q := c_isi true (show kitB "tuple" "tuple" = some true by decide +kernel) p
theorem frs_app (a b : List (Int × Int)) : frs (a ++ b) = frs a ++ frs b := List.map_append
theorem leq_same {p q : Int × Int} {k : Nat} (hp : FqQ k p) (hq : FqQ k q) (a : leq p q) (b : leq q p) : p = q := by
  have e : p.1 * q.2 = q.1 * p.2 := Int.le_antisymm a b
  obtain ⟨e1, e2⟩ := fr_uniq hp.fr hq.fr e
  exact Prod.ext e1 e2
/-- the sums of the beginnings -/
def sums : Int → List Int → List Int
  | a, [] => [a]
  | a, n :: r => a :: sums (a + n) r
theorem sums_last : ∀ (a : Int) (l : List Int), ∃ i, sums a l = i ++ [a + l.sum]
  | a, [] => ⟨[], by simp [sums]⟩
  | a, n :: r => by
    obtain ⟨i, e⟩ := sums_last (a + n) r
    exact ⟨a :: i, by rw [sums, e, List.sum_cons, Int.add_assoc]; rfl⟩
theorem sums_snoc : ∀ (a : Int) (l : List Int) (x : Int), sums a (l ++ [x]) = sums a l ++ [a + l.sum + x]
  | a, [], x => by simp [sums]
  | a, n :: r, x => by
    rw [List.cons_append, sums, sums_snoc (a + n) r x, sums, List.sum_cons, List.cons_append, Int.add_assoc a n r.sum]
theorem sums_len : ∀ (a : Int) (l : List Int), (sums a l).length = l.length + 1
  | a, [] => rfl
  | a, n :: r => by rw [sums, List.length_cons, sums_len, List.length_cons]
theorem ints_at {ns : List Int} {k : Nat} {d : PyData} (h : (ns.map PyData.int)[k]? = some d) : ∃ i, ns[k]? = some i ∧ d = .int i := by
  rw [List.getElem?_map] at h
  cases e : ns[k]? with
  | none => rw [e] at h; cases h
  | some q => rw [e] at h; exact ⟨q, rfl, (Option.some.inj h).symm⟩
theorem take_snoc {α : Type} {l : List α} {k : Nat} {x : α} (h : l[k]? = some x) : l.take (k + 1) = l.take k ++ [x] := by
  obtain ⟨h1, h2⟩ := List.getElem?_eq_some_iff.mp h
  rw [List.take_succ_eq_append_getElem h1, h2]
/-- a row as data -/
abbrev rowD (ns : List Int) : PyData := .tuple (ns.map PyData.int)
def rCells : RR := fun ds po => ∃ ns : List Int, ds = [rowD ns] ∧ ns.length ≤ 1000 ∧ po = fun r => r = rowD (sums 0 ns)
theorem c_cells {M : MM} {Q : Ent → MM → Prop} {ns : List Int} (hl : ns.length ≤ 1000) (p : Q (.dat (rowD (sums 0 ns))) M) : Cb K (fun vs H Q => SpQ K rCells vs H Q E0) [.dat (rowD ns)] M Q :=
  c_Q (.cons .nil) _ ⟨ns, rfl, hl, rfl⟩ fun r e => by rw [e]; exact p
def rMirr : RR := fun ds po => ∃ ns : List Int, ds = [rowD ns] ∧ po = fun r => r = rowD ns.reverse
theorem c_mirrored {M : MM} {Q : Ent → MM → Prop} {ns : List Int} (p : Q (.dat (rowD ns.reverse)) M) : Cb K (fun vs H Q => SpQ K rMirr vs H Q E0) [.dat (rowD ns)] M Q :=
  c_Q (.cons .nil) _ ⟨ns, rfl, rfl⟩ fun r e => by rw [e]; exact p
theorem sums_ge : ∀ {a : Int} {l : List Int}, (∀ n ∈ l, 0 ≤ n) → ∀ x ∈ sums a l, a ≤ x
  | a, [], _, x, hx => by
    have e : x = a := by simpa [sums] using hx
    omega
  | a, n :: r, h, x, hx => by
    rw [sums] at hx
    rcases List.mem_cons.mp hx with e | hx
    · omega
    · have h1 := sums_ge (a := a + n) (fun m hm => h m (List.mem_cons_of_mem _ hm)) x hx
      have h2 := h n List.mem_cons_self
      omega
theorem sum_in (a : Int) (l : List Int) : a + l.sum ∈ sums a l := by
  obtain ⟨i, e⟩ := sums_last a l
  rw [e]
  exact List.mem_append_right _ (List.mem_singleton.mpr rfl)
theorem wt_ints {ns : List Int} {n : Nat} (hl : ns.length ≤ n) (hb : ∀ x ∈ ns, x.natAbs < 2 ^ 1920) : Wt (n * 1923 + 3) 1 (rowD ns) :=
  Wt.tup (w := 1921) (dp := 0) (fun d hd => by
    obtain ⟨i, hi, rfl⟩ := List.mem_map.mp hd
    exact Wt.intB (hb i hi)) (by rw [List.length_map]; exact hl)
/-- bounds as data -/
abbrev bdD (c dr sh : PyData) (lo most le : Int) : PyData := .tuple [c, dr, sh, .int lo, .int most, .int le]
theorem catK {X : Cx} {K : PySem.W.Frag} (h : X.K = K) : OpR X (binaryOp .Add) (rCatA K) := by
  rw [← h]
  exact op_catA
/-- one row before another -/
def lexB : List Int → List Int → Prop
  | [], [] => False
  | [], _ :: _ => True
  | _ :: _, [] => False
  | a :: s, b :: t => a < b ∨ (a = b ∧ lexB s t)
def Good (lo most cells : Int) (row : List Int) : Prop := row.sum = cells ∧ ∀ x ∈ row, lo ≤ x ∧ x ≤ most
structure AllRows (lo most cells : Int) (rs : List (List Int)) : Prop where
  ord : rs.Pairwise lexB
  mem : ∀ row, row ∈ rs ↔ Good lo most cells row
  few : rs.length ≤ 2 ^ cells.toNat
abbrev rowsD (rs : List (List Int)) : PyData := .list (rs.map rowD)
def rAll : RR := fun ds po => ∃ c dr sh lo most le cells, ds = [bdD c dr sh lo most le, .int cells] ∧ 1 ≤ lo ∧ lo ≤ most ∧ most ≤ 5 ∧ 0 ≤ cells ∧ cells ≤ 14 ∧ po = fun r => ∀ rs, AllRows lo most cells rs → r = rowsD rs
end
end Yw

set_option Elab.async false
set_option linter.all false
set_option maxRecDepth 100000
set_option maxHeartbeats 4000000
set_option exponentiation.threshold 20000
/-! Own layer T: fractions over one divisor; ranges with a step; long repeated tuples; two lists at once. -/
namespace Yw
open PySem PySem.Spec PyProof.Rows L2
/-! ### the fraction m / L -/
def qv (L m : Int) : Int × Int := (redN m L, redD m L)
section
variable {L a b c : Int}
theorem qv_fr (h : 0 < L) (m : Int) : Fr (qv L m).1 (qv L m).2 := red_fr (by omega)
theorem qv_eq (L m : Int) : (qv L m).1 * L = m * (qv L m).2 := red_eq m L
theorem qv_of {q : Int × Int} (h : 0 < L) (f : Fr q.1 q.2) (e : q.1 * L = a * q.2) : q = qv L a := by
  obtain ⟨x, y⟩ := red_uniq f (by omega : L ≠ 0) e
  exact Prod.ext x y
theorem qv_fq {k : Nat} (h : 0 < L) (hL : Bd k L) (hm : Bd k a) : FqQ k (qv L a) := red_fq (by omega) hm hL
theorem qadd_qv (h : 0 < L) : qadd (qv L a) (qv L b) = qv L (a + b) := by
  have fa := qv_fr h a
  have fb := qv_fr h b
  have ea := qv_eq L a
  have eb := qv_eq L b
  generalize qv L a = p at *
  generalize qv L b = q at *
  have z : p.2 * q.2 ≠ 0 := Int.mul_ne_zero (by have := fa.1; omega) (by have := fb.1; omega)
  unfold qadd
  refine Prod.ext ?_ ?_
  · refine (red_congr z (by omega) ?_).1
    rw [Int.add_mul, Int.add_mul]
    congr 1
    · rw [Int.mul_right_comm, ea, Int.mul_assoc]
    · rw [Int.mul_right_comm, eb, Int.mul_assoc, Int.mul_comm q.2]
  · refine (red_congr z (by omega) ?_).2
    rw [Int.add_mul, Int.add_mul]
    congr 1
    · rw [Int.mul_right_comm, ea, Int.mul_assoc]
    · rw [Int.mul_right_comm, eb, Int.mul_assoc, Int.mul_comm q.2]
theorem qneg_qv (h : 0 < L) : (-(qv L a).1, (qv L a).2) = qv L (-a) := by
  refine qv_of h ?_ ?_
  · have f := qv_fr h a
    exact ⟨f.1, by rw [Int.neg_gcd]; exact f.2⟩
  · show -(qv L a).1 * L = -a * (qv L a).2
    rw [Int.neg_mul, qv_eq, Int.neg_mul]
/-- what the sign of the difference is -/
theorem qle_qv (h : 0 < L) : (qv L a).1 * (qv L b).2 ≤ (qv L b).1 * (qv L a).2 ↔ a ≤ b := by
  have fa := (qv_fr h a).1
  have fb := (qv_fr h b).1
  have ea := qv_eq L a
  have eb := qv_eq L b
  generalize qv L a = p at *
  generalize qv L b = q at *
  have k : 0 < p.2 * q.2 := Int.mul_pos fa fb
  have e1 : p.1 * q.2 * L = a * (p.2 * q.2) := by rw [Int.mul_right_comm, ea, Int.mul_assoc]
  have e2 : q.1 * p.2 * L = b * (p.2 * q.2) := by rw [Int.mul_right_comm, eb, Int.mul_assoc, Int.mul_comm q.2]
  constructor
  · intro z
    have := Int.mul_le_mul_of_nonneg_right z (by omega : 0 ≤ L)
    rw [e1, e2] at this
    exact Int.le_of_mul_le_mul_right this k
  · intro z
    have := Int.mul_le_mul_of_nonneg_right z (by omega : 0 ≤ p.2 * q.2)
    rw [← e1, ← e2] at this
    exact Int.le_of_mul_le_mul_right this h
theorem qlt_qv (h : 0 < L) : (qv L a).1 * (qv L b).2 < (qv L b).1 * (qv L a).2 ↔ a < b := by
  have := qle_qv (a := b) (b := a) h
  omega
theorem qv_int (h : 0 < L) (n : Int) : (n, (1 : Int)) = qv L (n * L) := qv_of h ⟨by show (0 : Int) < 1; decide, Int.gcd_one_right _⟩ (by show n * L = n * L * 1; rw [Int.mul_one])
/-- any fraction whose divisor divides L -/
theorem qv_red {n d e : Int} (h : 0 < L) (hd : d ≠ 0) (he : L = d * e) : (redN n d, redD n d) = qv L (n * e) := by
  refine qv_of h (red_fr hd) ?_
  show redN n d * L = n * e * redD n d
  rw [he, ← Int.mul_assoc, red_eq, Int.mul_right_comm]
theorem qv_mk {x y e : Int} (h : 0 < L) (f : Fr x y) (he : L = y * e) : (x, y) = qv L (x * e) := by
  refine qv_of h f ?_
  show x * L = x * e * y
  rw [he, Int.mul_comm y, Int.mul_assoc]
end
theorem cmp3_qv {L a b : Int} (h : 0 < L) : cmp3 ((qv L a).1 * (qv L b).2) ((qv L b).1 * (qv L a).2) = cmp3 a b := by
  have l1 := qle_qv (a := a) (b := b) h
  have l2 := qle_qv (a := b) (b := a) h
  have l3 := qlt_qv (a := a) (b := b) h
  unfold cmp3
  generalize (qv L a).1 * (qv L b).2 = x at *
  generalize (qv L b).1 * (qv L a).2 = y at *
  by_cases e : a = b
  · rw [if_pos e, if_pos (by omega)]
  · rw [if_neg e, if_neg (by omega)]
    by_cases c : a < b
    · rw [if_pos c, if_pos (l3.mpr c)]
    · rw [if_neg c, if_neg (fun z => c (l3.mp z))]
/-- a list of them -/
abbrev qs (L : Int) (ms : List Int) : List PyData := frs (ms.map (qv L))
theorem qs_at {L : Int} {ms : List Int} {k : Nat} {d : PyData} (h : (qs L ms)[k]? = some d) : ∃ m, ms[k]? = some m ∧ d = frq (qv L m) := by
  obtain ⟨q, hq, _, rfl⟩ := frs_at h
  rw [List.getElem?_map] at hq
  cases z : ms[k]? with
  | none => rw [z] at hq; cases hq
  | some m => rw [z] at hq; exact ⟨m, rfl, by rw [← Option.some.inj hq]⟩
theorem qs_get {L : Int} {ms : List Int} {k : Nat} {m : Int} (h : ms[k]? = some m) : (qs L ms)[k]? = some (frq (qv L m)) := by
  unfold qs frs
  rw [List.map_map, List.getElem?_map, h]
  rfl
theorem qs_len (L : Int) (ms : List Int) : (qs L ms).length = ms.length := by
  unfold qs frs
  rw [List.length_map, List.length_map]
theorem qs_app (L : Int) (a b : List Int) : qs L (a ++ b) = qs L a ++ qs L b := by
  unfold qs frs
  rw [List.map_append, List.map_append]
theorem qs_rev (L : Int) (a : List Int) : qs L a.reverse = (qs L a).reverse := by
  unfold qs frs
  rw [List.map_reverse, List.map_reverse]
theorem qs_take (L : Int) (a : List Int) (n : Nat) : qs L (a.take n) = (qs L a).take n := by
  unfold qs frs
  rw [List.map_take, List.map_take]
theorem qs_drop (L : Int) (a : List Int) (n : Nat) : qs L (a.drop n) = (qs L a).drop n := by
  unfold qs frs
  rw [List.map_drop, List.map_drop]

/-! ### long repeated tuples -/
section
variable {X : Cx}
end
section
variable {K : PySem.W.Frag} {M : MM} {P : Ent → MM → Prop} {es : List Ent}
/-! ### ranges with a step -/
/-! ### two lists at once, the second of which may change -/
theorem sj_parD {D0 : List Addr} {W : DE} {i j : Nat} {ta tb : TA} (h : EvA K ta es M fun as M1 => ∃ ds, Ds as ds ∧ ds.length ≤ 100000 ∧ EvA K tb es M1 fun bs M2 => ∃ cs, Ds bs cs ∧ cs.length ≤ 100000 ∧ ∀ p, p ∉ D0 → W.nx ((es.set i (.dat (.list ds))).set j (.ref p)) (M2 ++ [(p, .lst cs)])) :
    Sj K D0 (tPar i j (tCons (tLst ta) (tCons (tLst tb) tNil))) es M W := by
  intro G0 H0 σ H D ⟨G, f, en⟩ l
  have q : ∀ (a b : V) (R : V → V → Prop), (∃ v w, [a, b] = [v, w] ∧ R v w) = R a b := fun a b R => propext ⟨fun ⟨v, w, e, r⟩ => by cases e; exact r, fun r => ⟨a, b, rfl, r⟩⟩
  simp only [tPar, tCons, tNil, tLst, q]
  refine h σ G H _ en f.wf fun as M1 vs G1 H1 p d g w x => ?_
  obtain ⟨ds, ed, nd, p⟩ := p
  rw [ed.eq] at x
  have xd := EnA.dats x
  refine ⟨by rw [dps_len xd]; exact Nat.le_trans nd (by decide), fun c hc => ?_⟩
  have f1 := f.step g w d
  have z := w.newG (o := HO.lst vs) hc
  have gc := w.none_g hc
  have f2 := f1.step z.2 z.1 rfl
  have rc : Rp K (upd G1 c (.lst vs)) (.ref c) (.list ds) := .lst upd_same (dpsUp (Ex.add gc) _ _ xd)
  have en2 := (en.up g.gg).up z.2.gg
  refine p σ _ _ _ en2 z.1 fun bs M2 ws G2 H2 p2 d2 g2 w2 y => ?_
  obtain ⟨cs, ec, nc, p2⟩ := p2
  rw [ec.eq] at y
  have yd := EnA.dats y
  refine ⟨by rw [dps_len yd]; exact Nat.le_trans nc (by decide), fun r hr => ?_⟩
  have f3 := f2.step g2 w2 d2
  have u := w2.newM hr yd
  refine l.nx _ _ _ _ (p2 r fun hb => f3.gr.al r (f3.bs r hb) hr) ⟨G2, ⟨f3.gr.transN u.2 f3.own, u.1, fun a ha => ?_, f3.bs⟩, ((en2.up g2.gg).put (e := .dat (.list ds)) (dpUp g2.gg _ _ rc) i).put (e := .ref r) rfl j⟩
  unfold dom at ha
  rw [List.map_append] at ha
  rcases List.mem_append.mp ha with t | t
  · exact f3.own a t
  · have : a = r := by simpa using t
    subst this
    cases z0 : H0 a with
    | none => exact .inr rfl
    | some o => exact absurd hr (f3.gr.al a (by rw [z0]; exact fun x => nomatch x))
/-- a, b, c = x, y, [..], the third of which may change -/
theorem sj_par3L {D0 : List Addr} {W : DE} {i j k : Nat} {ta tb : TE} {tc : TA} (h : Ev K ta es M fun a M1 => Ev K tb es M1 fun b M2 => EvA K tc es M2 fun cs M3 => ∃ ds, Ds cs ds ∧ ds.length ≤ 100000 ∧ ∀ p, p ∉ D0 → W.nx (((es.set i a).set j b).set k (.ref p)) (M3 ++ [(p, .lst ds)])) :
    Sj K D0 (tPar3 i j k (tCons ta (tCons tb (tCons (tLst tc) tNil)))) es M W := by
  intro G0 H0 σ H D ⟨G, f, en⟩ l
  have q : ∀ (a b c : V) (R : V → V → V → Prop), (∃ v w z, [a, b, c] = [v, w, z] ∧ R v w z) = R a b c := fun a b c R => propext ⟨fun ⟨v, w, z, e, r⟩ => by cases e; exact r, fun r => ⟨a, b, c, rfl, r⟩⟩
  simp only [tPar3, tCons, tNil, tLst, q]
  refine h σ G H _ en f.wf fun a M1 x G1 H1 h1 d1 g1 w1 xa => ?_
  have f1 := f.step g1 w1 d1
  refine h1 σ G1 H1 _ (en.up g1.gg) w1 fun b M2 y G2 H2 h2 d2 g2 w2 yb => ?_
  have f2 := f1.step g2 w2 d2
  refine h2 σ G2 H2 _ ((en.up g1.gg).up g2.gg) w2 fun cs M3 ws G3 H3 h3 d3 g3 w3 zc => ?_
  have f3 := f2.step g3 w3 d3
  obtain ⟨ds, ed, nd, h3⟩ := h3
  rw [ed.eq] at zc
  have zd := EnA.dats zc
  refine ⟨by rw [dps_len zd]; exact Nat.le_trans nd (by decide), fun r hr => ?_⟩
  have u := w3.newM hr zd
  have en3 := ((en.up g1.gg).up g2.gg).up g3.gg
  refine l.nx _ _ _ _ (h3 r fun hb => f3.gr.al r (f3.bs r hb) hr) ⟨G3, ⟨f3.gr.transN u.2 f3.own, u.1, fun a ha => ?_, f3.bs⟩, (((en3.put ((xa.up g2.gg).up g3.gg) i).put (yb.up g3.gg) j).put (e := .ref r) rfl k)⟩
  unfold dom at ha
  rw [List.map_append] at ha
  rcases List.mem_append.mp ha with t | t
  · exact f3.own a t
  · have : a = r := by simpa using t
    subst this
    cases z0 : H0 a with
    | none => exact .inr rfl
    | some o => exact absurd hr (f3.gr.al a (by rw [z0]; exact fun x => nomatch x))
end
/-! ### fractions over one divisor, through the program's and the law's own functions -/
structure Sz (L : Int) : Prop where
  p : 0 < L
  b : Bd 900 L
theorem Sz.fq {L a : Int} (h : Sz L) (ha : Bd 900 a) : Fq 2000 (qv L a).1 (qv L a).2 := (qv_fq h.p h.b ha).up (by decide)
theorem Sz.f9 {L a : Int} (h : Sz L) (ha : Bd 900 a) : Fq 1900 (qv L a).1 (qv L a).2 := (qv_fq h.p h.b ha).up (by decide)
section
variable {K : PySem.W.Frag} {M : MM} {Q : Ent → MM → Prop} {L a b : Int}
theorem c_addedV (z : Sz L) (ha : Bd 900 a) (hb : Bd 900 b) (p : Q (.dat (frq (qv L (a + b)))) M) : Cb K (fun vs H Q => spAdd K vs H Q E0) [.dat (frq (qv L a)), .dat (frq (qv L b))] M Q := by
  rw [← qadd_qv z.p] at p
  exact c_added (z.fq ha) (z.fq hb) p
theorem c_comparedV (z : Sz L) (ha : Bd 900 a) (hb : Bd 900 b) (p : Q (.dat (.int (cmp3 a b))) M) : Cb K (fun vs H Q => spCmp K vs H Q E0) [.dat (frq (qv L a)), .dat (frq (qv L b))] M Q := by
  rw [← cmp3_qv z.p] at p
  exact c_compared (z.fq ha) (z.fq hb) p
theorem c_negatedV (z : Sz L) (p : Q (.dat (frq (qv L (-a)))) M) : Cb K (fun vs H Q => spNeg K vs H Q E0) [.dat (frq (qv L a))] M Q := by
  rw [← qneg_qv z.p] at p
  exact c_negated p
theorem wt_qv (z : Sz L) (ha : Bd 900 a) : Wt 3849 1 (frq (qv L a)) := wt_fr (z.f9 ha)
theorem wt_qs {n : Nat} {ms : List Int} (z : Sz L) (h : ∀ m ∈ ms, Bd 900 m) (hl : ms.length ≤ n) : Wt (n * 3851 + 3) 2 (.tuple (qs L ms)) :=
  Wt.tup (w := 3849) (dp := 1) (fun d hd => by
    obtain ⟨q, hq, rfl⟩ := List.mem_map.mp hd
    obtain ⟨m, hm, rfl⟩ := List.mem_map.mp hq
    exact wt_qv z (h m hm)) (by rw [qs_len]; exact hl)
end
end Yw

set_option Elab.async false
set_option linter.all false
set_option maxRecDepth 100000
set_option maxHeartbeats 1000000
set_option exponentiation.threshold 20000
/-! Own layer U: tellings, rides, marks over one divisor. -/
namespace Yw
open PySem PySem.Spec PyProof.Rows L2
/-! ### sums of beginnings, once more -/
theorem sums_le_sum : ∀ {a : Int} {l : List Int}, (∀ n ∈ l, 0 ≤ n) → ∀ x ∈ sums a l, x ≤ a + l.sum
  | a, [], _, x, hx => by
    have e : x = a := by simpa [sums] using hx
    simp; omega
  | a, n :: r, h, x, hx => by
    have h2 := h n List.mem_cons_self
    have hr : ∀ m ∈ r, 0 ≤ m := fun m hm => h m (List.mem_cons_of_mem _ hm)
    rw [sums] at hx
    rw [List.sum_cons]
    rcases List.mem_cons.mp hx with e | hx
    · have h3 := sums_le_sum (a := 0) hr (0 + r.sum) (sum_in 0 r)
      have h4 := sums_ge (a := 0) hr (0 + r.sum) (sum_in 0 r)
      omega
    · have h1 := sums_le_sum (a := a + n) hr x hx
      omega
theorem sums_abs {B : Nat} : ∀ {a : Int} {l : List Int}, (∀ n ∈ l, n.natAbs ≤ B) → ∀ x ∈ sums a l, x.natAbs ≤ a.natAbs + l.length * B
  | a, [], _, x, hx => by
    have e : x = a := by simpa [sums] using hx
    subst e; simp
  | a, n :: r, h, x, hx => by
    have h2 := h n List.mem_cons_self
    rw [sums] at hx
    rw [List.length_cons, Nat.add_mul, Nat.one_mul]
    rcases List.mem_cons.mp hx with e | hx
    · subst e; omega
    · have h1 := sums_abs (a := a + n) (fun m hm => h m (List.mem_cons_of_mem _ hm)) x hx
      have : (a + n).natAbs ≤ a.natAbs + n.natAbs := Int.natAbs_add_le _ _
      omega
theorem sums_get : ∀ (a : Int) (l : List Int) (k : Nat), k ≤ l.length → (sums a l)[k]? = some (a + (l.take k).sum)
  | a, [], 0, _ => by simp [sums]
  | a, n :: r, 0, _ => by simp [sums]
  | a, n :: r, k + 1, h => by
    rw [sums, List.getElem?_cons_succ, sums_get (a + n) r k (by simpa using h), List.take_succ_cons, List.sum_cons, Int.add_assoc]
  | a, [], k + 1, h => by simp at h
/-- the moments, the marks -/
def marks (m : Int) (ms ns : List Int) : List Int := (sums 0 ns).map fun c => m + (ms.take c.toNat).sum
theorem marks_len (m : Int) (ms ns : List Int) : (marks m ms ns).length = ns.length + 1 := by
  unfold marks
  rw [List.length_map, sums_len]
abbrev telD (L m : Int) (ms : List Int) : PyData := .tuple [frq (qv L m), .tuple (qs L ms)]
structure Sm (m : Int) (ms : List Int) : Prop where
  l : ms.length ≤ 2000
  m : Bd 700 m
  s : ∀ x ∈ ms, Bd 700 x
theorem Sm.sums {m : Int} {ms : List Int} (h : Sm m ms) : ∀ x ∈ sums m ms, Bd 720 x := fun x hx => by
  have h1 := sums_abs (B := 2 ^ 700) (fun n hn => Nat.le_of_lt (h.s n hn)) x hx
  have h2 : m.natAbs ≤ 2 ^ 700 := Nat.le_of_lt h.m
  have h3 : ms.length * 2 ^ 700 ≤ 2000 * 2 ^ 700 := Nat.mul_le_mul_right _ h.l
  show _ < _
  have e : 2 ^ 720 = 1048576 * 2 ^ 700 := by rw [← show 2 ^ 20 * 2 ^ 700 = 2 ^ 720 from (Nat.pow_add 2 20 700).symm]
  rw [e]
  generalize 2 ^ 700 = z at *
  omega
theorem Sm.part {m : Int} {ms : List Int} (h : Sm m ms) {k : Nat} (hk : k ≤ ms.length) : Bd 720 (m + (ms.take k).sum) := h.sums _ (List.mem_of_getElem? (sums_get m ms k hk))
/-- a row whose cells are as many as the ride's -/
structure Rw (ns ms : List Int) : Prop where
  l : ns.length ≤ 1000
  p : ∀ n ∈ ns, 0 ≤ n
  e : ns.sum = (ms.length : Int)
theorem Rw.cell {ns ms : List Int} (h : Rw ns ms) {c : Int} (hc : c ∈ sums 0 ns) : 0 ≤ c ∧ c.toNat ≤ ms.length := by
  have a := sums_ge h.p c hc
  have b := sums_le_sum h.p c hc
  have := h.e
  omega
theorem Rw.mark {ns ms : List Int} (h : Rw ns ms) (L m : Int) {c : Int} (hc : c ∈ sums 0 ns) : atI (qs L (sums m ms)) c = some (frq (qv L (m + (ms.take c.toNat).sum))) := by
  obtain ⟨a, b⟩ := h.cell hc
  have e : c = ((c.toNat : Nat) : Int) := by omega
  have z : atI (qs L (sums m ms)) ((c.toNat : Nat) : Int) = some (frq (qv L (m + (ms.take c.toNat).sum))) := atI_nat (qs_get (sums_get m ms _ b))
  rwa [← e] at z
theorem marks_bd {m : Int} {ns ms : List Int} (h : Rw ns ms) (s : Sm m ms) : ∀ x ∈ marks m ms ns, Bd 720 x := fun x hx => by
  obtain ⟨c, hc, rfl⟩ := List.mem_map.mp hx
  exact s.part (h.cell hc).2
/-! ### rides -/
theorem zipD_qs (L : Int) : ∀ (as bs : List Int), zipD (qs L as) (qs L bs) = (as.zip bs).map fun p => PyData.tuple [frq (qv L p.1), frq (qv L p.2)]
  | [], _ => by simp [zipD, qs]
  | _ :: _, [] => by simp [zipD, qs]
  | a :: as, b :: bs => by
    show PyData.tuple [frq (qv L a), frq (qv L b)] :: zipD (qs L as) (qs L bs) = _
    rw [zipD_qs L as bs]
    rfl
theorem map_at {α β : Type} {f : α → β} {l : List α} {k : Nat} {d : β} (h : (l.map f)[k]? = some d) : ∃ a, l[k]? = some a ∧ d = f a := by
  rw [List.getElem?_map] at h
  cases e : l[k]? with
  | none => rw [e] at h; cases h
  | some q => rw [e] at h; exact ⟨q, rfl, (Option.some.inj h).symm⟩
theorem map_snoc {α β : Type} {f : α → β} {l : List α} {k : Nat} {a : α} (h : l[k]? = some a) : (l.take (k + 1)).map f = (l.take k).map f ++ [f a] := by
  rw [take_snoc h, List.map_append]
  rfl
section
variable {K : PySem.W.Frag} {M : MM} {Q : Ent → MM → Prop} {L a b c : Int}
def rMoments (mk : List PyData → PyData) : RR := fun ds po => ∃ L m ms, ds = [telD L m ms] ∧ Sz L ∧ Sm m ms ∧ po = fun r => r = mk (qs L (sums m ms))
theorem c_moments {mk : List PyData → PyData} {m : Int} {ms : List Int} (z : Sz L) (s : Sm m ms) (p : Q (.dat (mk (qs L (sums m ms)))) M) : Cb K (fun vs H Q => SpQ K (rMoments mk) vs H Q E0) [.dat (telD L m ms)] M Q :=
  c_Q (.cons .nil) _ ⟨L, m, ms, rfl, z, s, rfl⟩ fun d e => by rw [e]; exact p
def rMarks (mk : List PyData → PyData) : RR := fun ds po => ∃ L m ms ns, ds = [telD L m ms, rowD ns] ∧ Sz L ∧ Sm m ms ∧ Rw ns ms ∧ po = fun r => r = mk (qs L (marks m ms ns))
theorem c_marks {mk : List PyData → PyData} {m : Int} {ms ns : List Int} (z : Sz L) (s : Sm m ms) (h : Rw ns ms) (p : Q (.dat (mk (qs L (marks m ms ns)))) M) : Cb K (fun vs H Q => SpQ K (rMarks mk) vs H Q E0) [.dat (telD L m ms), .dat (rowD ns)] M Q :=
  c_Q (.cons (.cons .nil)) _ ⟨L, m, ms, ns, rfl, z, s, h, rfl⟩ fun d e => by rw [e]; exact p
end
end Yw

set_option Elab.async false
set_option linter.all false
set_option maxRecDepth 100000
set_option maxHeartbeats 1000000
set_option exponentiation.threshold 20000
/-! Own layer V: what the law's own draws of bounds, rows, rides give. -/
namespace Yw
open PySem PySem.Spec PyProof.Rows L2
abbrev LL : Int := 554400
abbrev LD : Int := 138600
theorem cell_bd {c : Int} (h1 : 1 ≤ c) (h2 : c ≤ 1000) : Bd 700 (c * LL) := Bd.up (j := 30) (by show _ < _; unfold LL; omega) (by decide)
/-! ### sizes of texts, once more -/
theorem Wt.intK {k : Nat} {a : Int} (h0 : 0 < k) (h1 : k ≤ 1920) (h : Bd k a) : Wt (k + 1) 0 (.int a) := by
  have l : a.natAbs.log2 < k := PySem.Flt.log2_lt_of h0 h
  refine ⟨by simp [PyData.canLay0], by simp [PyData.depth], by simpa [PyData.showable] using Nat.lt_of_lt_of_le l h1, ?_⟩
  simp only [PyData.shown]
  show (PySem.Str.ofString (toString a)).length ≤ k + 1
  rw [PySem.ofString_length]
  exact PySem.int_text_length_le h0 l
theorem wt_frK {k : Nat} {a b : Int} (h0 : 0 < k) (h1 : k ≤ 1920) (h : Fq k a b) : Wt (2 * (k + 3) + 3) 1 (fr a b) := by
  refine Wt.tup (w := k + 1) (dp := 0) (n := 2) (fun d hd => ?_) (Nat.le_refl 2)
  rcases List.mem_cons.mp hd with e | hd
  · subst e; exact Wt.intK h0 h1 h.n
  · have e := List.mem_singleton.mp hd
    subst e; exact Wt.intK h0 h1 h.d
end Yw

set_option Elab.async false
set_option linter.all false
set_option maxRecDepth 100000
set_option maxHeartbeats 4000000
set_option exponentiation.threshold 20000
/-! Own layer W: a def handed to a def; two sorted lists made one. -/
namespace Yw
open PySem PySem.Spec PyProof.Rows L2
/-- a call of the def that stands in a slot -/
def tLoc (i : Nat) (f : Addr) (sp : Sp) (t : TA) : TE := fun σ H Q => σ[i]? = some (some (.ref f)) ∧ t σ H fun vs H1 => sp vs H1 Q E0
section
variable {X : Cx} {k j i : Nat} {f : Addr} {fd : FuncData} {ps : List Str} {sp : Sp} {x : Str} {p pos : Pos} {e : Expr} {es : List Expr} {t : TA}
theorem peL (F : FnG X.prog X.w X.K X.mg X.base k f fd ps sp) (g : X.A.guards = some []) (hr : Room j X.A) (h : k ≤ j) (hN : X.N[i]? = some x) (hv : Vis X.env.scope x) (hk : PySem.W.keepIn X.K (.ref f) = true) (hb : Binds X.K fd ps []) (ha : PA X (e :: es) t)
    (hdb : (x == ("__debug__" : Str)) = false := by decide) (hcd : (x == ("__classdict__" : Str)) = false := by decide)
    (he : starEach (e :: es) X.env = (false, eval e X.env) :: starEach es X.env := by rfl) (hpl : (backTo pos (starEach es X.env)).any (·.1) = false := by rfl) : PE X (.Call (.Name x p) (e :: es) [] pos) (tLoc i f sp t) := by
  refine ⟨fun pins s σ H Q I hq => wpAny_Call_Name_kw (thn ((pe_var (pos := p) hN hv hdb hcd).run pins s σ H (fun v H1 => v = .ref f ∧ H1 = H) I ⟨.ref f, hq.1, rfl, rfl⟩) ?_)⟩
  rintro u s1 ⟨v, H1, I1, r1, rfl, rfl⟩
  cases r1
  refine PySem.W.callWith_K (h₀ := X.base) I.ok.mod.kin hk (thn (ha.run pos pins s1 σ _ _ I1 hq.2) ?_) he hpl
  rintro us s2 ⟨vs, H2, I2, r, q⟩
  exact ⟨I2.kIn, goG F g (hr.mono h) hb I2 r q⟩
end
def SpF (K : PySem.W.Frag) (f0 : Addr) (R : RR) : Sp := fun vs H Q _ =>
  ∃ G v2 ds po, vs = .ref f0 :: v2 ∧ Ex G H ∧ Rps K G v2 ds ∧ R ds po ∧ ∀ d v G1 H1, po d → Grow [] G H G1 H1 → Ex G1 H1 → Rp K G1 v d → Q v H1
section
variable {K : PySem.W.Frag} {M : MM} {P : Ent → MM → Prop} {R : RR} {es as : List Ent} {ds : List PyData} {f0 : Addr}
theorem ev_loc {i : Nat} {sp : Sp} {ta : TA} (e : es[i]? = some (.ref f0)) (h : EvA K ta es M fun as M1 => Cb K (fun vs H Q => sp vs H Q E0) as M1 P) : Ev K (tLoc i f0 sp ta) es M P := fun σ G H Q en w q => by
  obtain ⟨v, a, b⟩ := en.at e (fun z => nomatch z)
  obtain rfl : v = .ref f0 := b
  exact ⟨a, h σ G H _ en w fun as M1 vs G1 H1 ha e1 g1 w1 xa => ha vs G1 H1 Q xa w1 (q.go e1 g1)⟩
theorem ev_fun (p : P (.ref f0) M) : Ev K (tC (.ref f0)) es M P := fun σ G H Q en w r => r.val w (e := .ref f0) p rfl
theorem c_F (e : Ds as ds) (po : PyData → Prop) (h : R ds po) (p : ∀ d, po d → P (.dat d) M) : Cb K (fun vs H Q => SpF K f0 R vs H Q E0) (.ref f0 :: as) M P := fun vs G H Q a w r => by
  rw [e.eq] at a
  cases a with
  | cons x y =>
    obtain rfl : _ = V.ref f0 := x
    obtain ⟨G0, ds0, e0, r0, h0, k⟩ := c_P (K := K) (M := M) (P := P) (pre := fun x => x = ds) (post := fun _ => po) ds rfl p _ G H Q (EnA.ofDats (EnA.dats y)) w r
    subst h0
    exact ⟨G0, _, ds0, po, rfl, e0, r0, h, k⟩
end
section
variable {P : Program} {w : World} {K : PySem.W.Frag} {mg : Str → Option Value} {base : Heap} {x : Str} {st : Stmt} {N ps : List Str} {k : Nat} {R : RR} {f0 : Addr}
theorem hasF (T : Stands K mg x st ps) (S : FnScope N ps (defScope st)) (cnt : ∀ ds po, R ds po → ds.length + 1 = ps.length) (n : Nat) (hn : N.length - ps.length = n)
    (body : ∀ (f : Addr) (cdv : Value) (A : Around) (outer : List Env) (s : Shared) (H : Hp) (E : XK),
      (A.deeper (envOfC x (defScope st) s.heap.objs.size f cdv)).guards = some [] →
      Room k (A.deeper (envOfC x (defScope st) s.heap.objs.size f cdv)) →
      ∃ t, PSs (cxOf CX0 P w K mg base N x (defScope st) f cdv A outer s H E).nox (defBody st) t ∧
        ∀ ds po, R ds po → Sj K [] t (.ref f0 :: ds.map .dat ++ List.replicate n .no) [] { nx := fun _ _ => po .none, rt := fun e _ => ∃ d, e = .dat d ∧ po d }) :
    Has P w K mg base (k + 1) x ps (SpF K f0 R) := by
  obtain ⟨f, fd, m, F, b⟩ := T.ex
  refine ⟨f, fd, m, F.kp, b, fnG F S (fun vs H Q E ⟨G, v2, ds, po, e, _, r, h, _⟩ => by rw [e, List.length_cons, dps_len r]; exact cnt ds po h) fun cdv A outer s H E g hr => ?_⟩
  obtain ⟨t, ht, hs⟩ := body f cdv A outer s H E g hr
  refine ⟨t, ht, fun vs Q ⟨G, v2, ds, po, ev, e, r, h, q⟩ => ?_⟩
  subst ev
  have w0 : Wf K G [] H := ⟨e, fun _ h => absurd h List.not_mem_nil, fun _ h => absurd h List.not_mem_nil, List.nodup_nil⟩
  refine hs ds po h G H (L2.start N _) H _ ⟨G, Far.refl w0, rps_start (es := .ref f0 :: ds.map .dat) (.cons rfl (EnA.ofDats r)) N n (by rw [List.length_cons, List.length_map, cnt ds po h]; exact hn)⟩ (lk_fn (fun e M v H1 p ⟨G1, f1, x⟩ => ?_) (fun _ _ z => z) fun _ _ z => z)
  have : ∃ d, e = .dat d ∧ po d := by
    rcases p with ⟨d, p⟩ | ⟨_, p, rfl⟩
    · exact ⟨d, p⟩
    · exact ⟨_, rfl, p⟩
  obtain ⟨d, rfl, pd⟩ := this
  exact q d v G1 H1 pd f1.gr f1.wf.gh x
end
/-! ### merging -/
/-- sorted, as they should be -/
abbrev Asc (l : List Int) : Prop := l.Pairwise (· ≤ ·)
theorem asc_snoc {l : List Int} {x : Int} (h : Asc l) (hx : ∀ y ∈ l, y ≤ x) : Asc (l ++ [x]) :=
  List.pairwise_append.mpr ⟨h, List.pairwise_singleton _ _, fun a ha b hb => by rw [List.mem_singleton.mp hb]; exact hx a ha⟩
theorem asc_uniq2 {a b : List Int} (p : a.Perm b) (ha : Asc a) (hb : Asc b) : a = b :=
  List.Perm.eq_of_pairwise (le := (· ≤ ·)) (fun a b _ _ h1 h2 => Int.le_antisymm h1 h2) ha hb p
/-- what has been merged so far: a items of the one, k of the other -/
structure Mg (xs ys : List Int) (a k : Nat) (zs : List Int) : Prop where
  le : a ≤ xs.length
  pm : zs.Perm (xs.take a ++ ys.take k)
  so : Asc zs
  bx : ∀ z ∈ zs, ∀ x ∈ xs.drop a, z ≤ x
  by_ : ∀ z ∈ zs, ∀ y ∈ ys.drop k, z ≤ y
theorem Mg.start (xs ys : List Int) : Mg xs ys 0 0 [] := ⟨Nat.zero_le _, by simp, by simp, fun z h => by simp at h, fun z h => by simp at h⟩
theorem drop_cons {l : List Int} {k : Nat} {x : Int} (h : l[k]? = some x) : l.drop k = x :: l.drop (k + 1) := by
  obtain ⟨h1, h2⟩ := List.getElem?_eq_some_iff.mp h
  rw [List.drop_eq_getElem_cons h1, h2]
theorem Mg.left {xs ys zs : List Int} {a k : Nat} {x y : Int} (m : Mg xs ys a k zs) (hx : Asc xs) (hy : Asc ys) (ex : xs[a]? = some x) (ey : ys[k]? = some y) (h : x ≤ y) : Mg xs ys (a + 1) k (zs ++ [x]) := by
  have dx := drop_cons ex
  have dy := drop_cons ey
  have sx : Asc (xs.drop a) := hx.sublist (List.drop_sublist _ _)
  have sy : Asc (ys.drop k) := hy.sublist (List.drop_sublist _ _)
  rw [dx] at sx
  rw [dy] at sy
  refine ⟨(List.getElem?_eq_some_iff.mp ex).1, ?_, asc_snoc m.so fun z hz => m.bx z hz x (by rw [dx]; exact List.mem_cons_self), fun z hz u hu => ?_, fun z hz u hu => ?_⟩
  · rw [take_snoc ex, List.append_assoc]
    refine (m.pm.append_right [x]).trans ?_
    rw [List.append_assoc]
    exact List.Perm.append_left _ List.perm_append_comm
  · rcases List.mem_append.mp hz with q | q
    · exact m.bx z q u (by rw [dx]; exact List.mem_cons_of_mem _ hu)
    · rw [List.mem_singleton.mp q]; exact (List.pairwise_cons.mp sx).1 u hu
  · rcases List.mem_append.mp hz with q | q
    · exact m.by_ z q u hu
    · rw [List.mem_singleton.mp q]
      rw [dy] at hu
      rcases List.mem_cons.mp hu with e | hu
      · rw [e]; exact h
      · exact Int.le_trans h ((List.pairwise_cons.mp sy).1 u hu)
theorem Mg.right {xs ys zs : List Int} {a k : Nat} {y : Int} (m : Mg xs ys a k zs) (hx : Asc xs) (hy : Asc ys) (ey : ys[k]? = some y) (h : ∀ x, xs[a]? = some x → y < x) : Mg xs ys a (k + 1) (zs ++ [y]) := by
  have dy := drop_cons ey
  have sy : Asc (ys.drop k) := hy.sublist (List.drop_sublist _ _)
  rw [dy] at sy
  refine ⟨m.le, ?_, asc_snoc m.so fun z hz => m.by_ z hz y (by rw [dy]; exact List.mem_cons_self), fun z hz u hu => ?_, fun z hz u hu => ?_⟩
  · rw [take_snoc ey, ← List.append_assoc]
    exact m.pm.append_right [y]
  · rcases List.mem_append.mp hz with q | q
    · exact m.bx z q u hu
    · rw [List.mem_singleton.mp q]
      cases e : xs[a]? with
      | none =>
        rw [List.drop_of_length_le (List.getElem?_eq_none_iff.mp e)] at hu
        cases hu
      | some x =>
        have dx := drop_cons e
        have sx : Asc (xs.drop a) := hx.sublist (List.drop_sublist _ _)
        rw [dx] at sx hu
        have := h x e
        rcases List.mem_cons.mp hu with e | hu
        · omega
        · have := (List.pairwise_cons.mp sx).1 u hu
          omega
  · rcases List.mem_append.mp hz with q | q
    · exact m.by_ z q u (by rw [dy]; exact List.mem_cons_of_mem _ hu)
    · rw [List.mem_singleton.mp q]; exact (List.pairwise_cons.mp sy).1 u hu
theorem Mg.done {xs ys zs : List Int} {a : Nat} (m : Mg xs ys a ys.length zs) (hx : Asc xs) : (zs ++ xs.drop a).Perm (xs ++ ys) ∧ Asc (zs ++ xs.drop a) := by
  refine ⟨?_, List.pairwise_append.mpr ⟨m.so, hx.sublist (List.drop_sublist _ _), fun z hz x hx => m.bx z hz x hx⟩⟩
  have p := m.pm
  rw [List.take_length] at p
  refine (p.append_right _).trans ?_
  conv => rhs; rw [← List.take_append_drop a xs]
  rw [List.append_assoc, List.append_assoc]
  exact List.Perm.append_left _ List.perm_append_comm
theorem Mg.len {xs ys zs : List Int} {a k : Nat} (m : Mg xs ys a k zs) : zs.length ≤ xs.length + ys.length := by
  rw [m.pm.length_eq, List.length_append, List.length_take, List.length_take]
  omega
end Yw

set_option Elab.async false
set_option linter.all false
set_option maxRecDepth 100000
set_option maxHeartbeats 1000000
set_option exponentiation.threshold 20000
/-! Own layer X: what is promised of the law's own readings of tellings. -/
namespace Yw
open PySem PySem.Spec PyProof.Rows L2
section
variable {P : Program} {w : World} {K : PySem.W.Frag} {mg : Str → Option Value} {base : Heap}
theorem frq_int {L : Int} (z : Sz L) (c : Int) : PyData.tuple [.int c, .int 1] = frq (qv L (c * L)) := congrArg frq (qv_int z.p c)
theorem shaped_nil : SeqAt.shaped (.list []) = true := by decide
theorem q1 (c : Int) : PyData.tuple [.int c, .int 1] = frq (qv 1 c) := by
  have h := congrArg frq (qv_int (L := 1) (by decide) c)
  rw [Int.mul_one] at h
  exact h
end
end Yw

set_option Elab.async false
set_option linter.all false
set_option maxRecDepth 100000
set_option maxHeartbeats 4000000
set_option exponentiation.threshold 20000
/-! Own layer Y: hearings. -/
namespace Yw
open PySem PySem.Spec PyProof.Rows L2
section
variable {K : PySem.W.Frag} {M : MM} {es : List Ent}
end
/-! ### order statistics -/
/-! ### near each other, item by item -/
/-! ### promises -/
section
variable {K : PySem.W.Frag} {M : MM} {Q : Ent → MM → Prop} {L : Int}
end
theorem cut_from (ds : List PyData) {k : Nat} (h : k ≤ ds.length) : cutY ds (some ((k : Nat) : Int)) none = ds.drop k := by
  unfold cutY
  rw [show HT.sIx ds.length 0 (some ((k : Nat) : Int)) = min k ds.length from HT.sIx_nat ds.length 0 k, HT.sIx_none, Nat.min_eq_left h, List.take_of_length_le (by rw [List.length_drop]; exact Nat.le_refl _)]
theorem cut_to (ds : List PyData) {k : Nat} (h : k ≤ ds.length) : cutY ds none (some ((k : Nat) : Int)) = ds.take k := by
  unfold cutY
  rw [show HT.sIx ds.length ds.length (some ((k : Nat) : Int)) = min k ds.length from HT.sIx_nat ds.length ds.length k, HT.sIx_none, Nat.min_eq_left h, List.drop_zero, Nat.sub_zero]
end Yw

set_option Elab.async false
set_option linter.all false
set_option maxRecDepth 100000
set_option maxHeartbeats 4000000
set_option exponentiation.threshold 20000
/-! Own layer Z: enumerate of a tuple. -/
namespace Yw
open PySem PySem.Spec PyProof.Rows L2
open Sem (wp)
open AutoSeq1 (wpAny_loadPart')
theorem enum_newT (l : Addr) (items : Array Value) (n : Nat) (dct : Option Addr) (sl : Array (Option Value)) :
    Meets (Builtin.«enumerate.__new__» ⟨[.type "enumerate", .ref l], []⟩) (fun _ R s => s.heap.get? l = some { cls := .type "tuple", dict := dct, data := .seq items n, slots := sl } ∧
      R (.ok (.ret (.ref (s.heap.push { cls := .type "tuple_iterator", data := .fields #[.ref l, .int 0 0] }).objs.size)))
        { s with heap := (s.heap.push { cls := .type "tuple_iterator", data := .fields #[.ref l, .int 0 0] }).push { cls := .type "enumerate", data := .fields #[.none, .bool false, .ref s.heap.objs.size, rawInt 0, .none, .none] } }) :=
  .of_wp fun prog w A R s h => by
    obtain ⟨hp, g, d, tk, os⟩ := s; obtain ⟨hl, h⟩ := h
    have hsub := sub_enumerate
    have hL : Heap.IsTuple (Shared.heap ⟨hp, g, d, tk, os⟩) l items := ⟨_, hl, rfl, n, rfl⟩
    wp_walk using wpAny_loadPart' hl
    refine wpAny_stack_any fun st => wpAny_pure ?_
    split
    · rename_i c _ _ _ _ _
      cases (c == Value.type "enumerate")
      · wp_walk using wpAny_loadPart' hl, wpAny_pyIter_tuple hL
        exact ⟨_, rfl, h⟩
      · wp_walk using wpAny_loadPart' hl, wpAny_pyIter_tuple hL
        exact ⟨_, rfl, h⟩
    · wp_walk using wpAny_loadPart' hl, wpAny_pyIter_tuple hL
      exact ⟨_, rfl, h⟩
section
variable {prog : Program} {w : World} {A : Around} {E : Value → Shared → Prop} {s : Shared}
theorem call_enumT {l : Addr} {items : Array Value} {Q : Value → Shared → Prop} (hL : s.heap.IsTuple l items)
    (h : ∀ h', IsEnum h' (s.heap.objs.size + 1) s.heap.objs.size 0 .none → h'.IsTupleIter s.heap.objs.size l 0 → h'.objs.size = s.heap.objs.size + 2 →
      (∀ b o, s.heap.get? b = some o → h'.get? b = some o) → Q (.ref (s.heap.objs.size + 1)) { s with heap := h' }) :
    wpAny (model prog w) A (call (.type "enumerate") [.ref l]) Q E s := by
  obtain ⟨⟨c, dct, dt, sl⟩, hl, hc, n, hd⟩ := hL
  replace hc : c = .type "tuple" := hc
  replace hd : dt = .seq items n := hd
  subst hc hd
  refine callType_new F.called_enumerate (by decide) (F.typeCall_enumerate_1 _) (F.newCall_enumerate_1 _) (fun obj => F.args_object_init_2 obj _) F.entry_enumerate_new
    (enum_newT l items n dct sl) ⟨hl, ?_⟩
  have hz : (s.heap.push { cls := .type "tuple_iterator", data := .fields #[.ref l, .int 0 0] }).objs.size = s.heap.objs.size + 1 := Heap.size_push ..
  show _ ∧ _
  rw [hz]
  have he : IsEnum ((s.heap.push { cls := .type "tuple_iterator", data := .fields #[.ref l, .int 0 0] }).push
      { cls := .type "enumerate", data := .fields #[.none, .bool false, .ref s.heap.objs.size, rawInt 0, .none, .none] }) (s.heap.objs.size + 1) s.heap.objs.size 0 .none := by
    have := Heap.get?_push_size (s.heap.push { cls := .type "tuple_iterator", data := .fields #[.ref l, .int 0 0] })
      (o := { cls := .type "enumerate", data := .fields #[.none, .bool false, .ref s.heap.objs.size, rawInt 0, .none, .none] }) rfl
    rw [hz] at this; exact this
  refine ⟨⟨_, he, rfl⟩, h _ he ⟨_, Heap.get?_push_of_some _ (Heap.get?_push_size _ rfl), rfl, rfl⟩ (by rw [Heap.size_push, hz]) fun b o x => Heap.get?_push_of_some _ (Heap.get?_push_of_some _ x)⟩
end
/-- the tuple at a, each item in a new pair -/
def IteT (K : PySem.W.Frag) (a : Addr) : It :=
  ⟨fun i H => ∃ (xs : List V) (x : V), SqT K H a xs ∧ xs[i]? = some x, fun i H v H' => ∃ T x, v = .ref T ∧ H T = none ∧ H' = upd H T (.tup [.int (i : Nat), x]) ∧ ∀ xs, SqT K H a xs → xs[i]? = some x, fun i H => ∃ xs : List V, SqT K H a xs ∧ xs.length ≤ i⟩
theorem enum_ne {h : Heap} {it a : Addr} {i : Nat} {xs : Array Value} (x : h.IsTupleIter it a i) (y : h.IsTuple a xs) : a ≠ it := by
  rintro rfl
  obtain ⟨o, ho, hc, _⟩ := x
  obtain ⟨o', ho', hc', _⟩ := y
  rw [ho] at ho'
  cases ho'
  rw [hc] at hc'
  exact absurd (Value.type.inj hc') (by decide)
theorem turn_enumT {P : Program} {w : World} {K : PySem.W.Frag} {elts : List Expr} {kk : Nat} {tpos : Pos} (a e it : Addr) :
    Turn P w K (.Tuple elts kk tpos) (IteT K a) [e, it] e (fun i h => (∃ old, IsEnum h e it ((i : Nat) : Int) old) ∧ h.IsTupleIter it a i ∧ e ≠ it) where
  mem := by simp
  obj := fun i h st b hb => by
    obtain ⟨⟨old, he⟩, ⟨o, ho, hc, hd⟩, _⟩ := st
    have e' : b = e ∨ b = it := by simpa using hb
    rcases e' with z | z
    · rw [z]; exact ⟨_, he, fun v q => nomatch q⟩
    · rw [z]; exact ⟨o, ho, fun v q => by rw [hd] at q; cases q⟩
  keep := fun i h h' st k => let ⟨⟨old, he⟩, hi, hne⟩ := st; ⟨⟨old, k e (by simp) _ he⟩, hi.at fun o q => k it (by simp) o q, hne⟩
  item := by
    intro X hP hw hK hc i pins s σ H E I hf st hg
    subst hP hw hK
    obtain ⟨⟨old, he⟩, hit, hne⟩ := st
    obtain ⟨xs, x, hq, hx⟩ := hg
    obtain ⟨its, rv, p, hz⟩ := I.tuple hq
    have p : s.heap.IsTuple a its.toArray := p
    obtain ⟨u, hu, ru⟩ := rv.get hx
    have hel : e < s.heap.objs.size := Heap.lt_size he
    have hil : it < s.heap.objs.size := by obtain ⟨_, q, _⟩ := id hit; exact Heap.lt_size q
    have hli : i < its.toArray.size := by
      have := (List.getElem?_eq_some_iff.mp hu).1
      simpa using this
    have hea : e ≠ a := by
      rintro rfl
      obtain ⟨o', ho', hc', _⟩ := id p
      have he' : s.heap.get? e = _ := he
      rw [he'] at ho'
      cases ho'
      exact absurd (Value.type.inj hc') (by decide)
    refine wpAny_pyNext_enum_itemD (Draws.tuple (A := X.A.in1) (I.ok.hd hc) it a (enum_ne hit p) its.toArray) he ⟨hit, p⟩ hli hne (by simp; exact ⟨hne, hea⟩) fun y h' tk hy ho hst' hT hsz hk => ?_
    have ey : y = u := by
      have : its.toArray[i]? = some y := hy
      rw [show its.toArray[i]? = some u by simpa using hu] at this
      exact (Option.some.inj this).symm
    subst ey
    refine ⟨_, rfl, wpAny_letOwnedTupleGo_enum (s := { s with heap := h', toks := tk + 1 }) ho fun h'' he' sb => ?_⟩
    have hT2 : h''.get? s.heap.objs.size = some { cls := .type "tuple", data := .seq #[.int i tk, y] } := (sb.2 _ (Nat.ne_of_gt hel)).trans hT
    have new : ObjOk X.prog X.w (upd H s.heap.objs.size (.tup [.int (i : Nat), x])) h'' s.heap.objs.size (.tup [.int (i : Nat), x]) :=
      ⟨by show 2 ≤ sizeLine; decide, [.int i tk, y], .cons ⟨_, rfl⟩ (.cons ru .nil), ⟨_, hT2, rfl, _, rfl⟩⟩
    have I1 : Inv X pins σ (upd H s.heap.objs.size (.tup [.int (i : Nat), x])) { s with heap := h'', toks := tk + 1 } :=
      I.turnedNew (ch := [e, it]) (fun b ob hb q => (sb.2 b (fun z => hb (by simp [z]))).trans (hk b ob (fun z => hb (by simp [z])) (fun z => hb (by simp [z])) q)) hf (Nat.le_refl _) new
    refine ⟨.ref s.heap.objs.size, _, I1, rfl, ⟨_, x, rfl, I.hok.fresh (Nat.le_refl _), rfl, fun ys hy => by rw [I.tuple_inj hy hq]; exact hx⟩, ⟨⟨y, ?_⟩, hst'.1.at fun o q => (sb.2 it (Ne.symm hne)).trans q, hne⟩, fun b hb => ?_⟩
    · have e1 : ((i + 1 : Nat) : Int) = (i : Int) + 1 := by omega
      rw [e1]; exact he'
    · have hb' : b < s.heap.objs.size := by
        have e' : b = e ∨ b = it := by simpa using hb
        rcases e' with z | z
        · rw [z]; exact hel
        · rw [z]; exact hil
      rw [upd_ne (Nat.ne_of_lt hb')]
      exact (hf b hb).1
  done := by
    intro X hP hw hK hc i pins s σ H E I hf st hg
    subst hP hw hK
    obtain ⟨⟨old, he⟩, hit, hne⟩ := st
    obtain ⟨xs, hq, hx⟩ := hg
    obtain ⟨its, rv, p, hz⟩ := I.tuple hq
    have p : s.heap.IsTuple a its.toArray := p
    obtain ⟨f0, f1, f2, f3, f4, f5⟩ := hf it (by simp)
    have hl := rv.length
    have hT : s.TypeIs (.ref e) "enumerate" := ⟨_, he, rfl⟩
    unfold pyNext
    refine wpAny_bind (wpAny_attempt (wpAny_callSpecial?_slot (name := Str.ofString "__next__") hT F.slot_enumerate_next
      (wpAny_call_entry F.slot_enumerate_next hT F.entry_enumerate_next ?_ (F.args_enumerate_next_1 _))))
    show wpAny _ _ (field (.ref e) 2 >>= _) _ _ _
    refine wpAny_bind (wpAny_field he rfl (x := .ref it) rfl ?_)
    refine wpAny_bind (wpAny_nextOf_tuple_end (I.ok.hd hc) hit p (by simp; omega) fun h' x he' hx' => ?_)
    obtain ⟨o, ho, hcc⟩ := hx'
    refine wpAny_bind (wpAny_isInstance (T := "StopIteration") (b := true) ⟨o, ho, hcc⟩ isSubtype_stop ?_)
    exact wpAny_pure ⟨rfl, I.turned (t' := s.toks) (fun b o hb q => he' b o hb q) f0 f1 f3 f4 f5⟩
  self := fun A i s Q E st h => let ⟨⟨_, he⟩, _⟩ := st; wpAny_pyIter_enum he h
def iEnumT (K : PySem.W.Frag) (ta : TA) : TI := fun σ H R => ta σ H fun vs H1 => ∃ a xs, vs = [.ref a] ∧ SqT K H1 a xs ∧ R (IteT K a) H1
theorem pi_enumT {X : Cx} {e : Expr} {ta : TA} {p pos tpos : Pos} {elts : List Expr} {kk : Nat} (hg : Gl X "enumerate") (hm : X.mg "enumerate" = none) (ha : PA X [e] ta) (hs : starEach [e] X.env = [(false, eval e X.env)] := by rfl) :
    PI X (.Tuple elts kk tpos) (.Call (.Name "enumerate" p) [e] [] pos) (iEnumT X.K ta) := by
  refine ⟨fun pins s σ H R I h => ?_⟩
  refine Call_ (ld_blt I hg hm boot_enumerate (PyProof.Rows.callWith_type1 (thn (ha.run pos pins s σ H _ I h) fun us s1 ⟨vs, H1, I1, r1, q1⟩ => ?_) hs rfl))
  obtain ⟨a, xs, ex, hq, q⟩ := q1
  subst ex
  cases r1 with
  | cons r rr =>
    cases rr
    cases r
    obtain ⟨its, rv, p', hz⟩ := I1.tuple hq
    refine call_enumT (show s1.heap.IsTuple a its.toArray from p') fun h' he hit hsz hk => wpAny_pyIter_enum he ?_
    have I2 : Inv X pins σ H1 { s1 with heap := h' } := I1.kept (t' := s1.toks) hk
    refine ⟨s1.heap.objs.size + 1, [s1.heap.objs.size + 1, s1.heap.objs.size], _, _, H1, rfl, I2, turn_enumT a (s1.heap.objs.size + 1) s1.heap.objs.size, ⟨⟨.none, he⟩, hit, Nat.succ_ne_self _⟩, fun b hb => ?_, q⟩
    have e' : b = s1.heap.objs.size + 1 ∨ b = s1.heap.objs.size := by simpa using hb
    have hle : s1.heap.objs.size ≤ b := by
      rcases e' with z | z
      · rw [z]; exact Nat.le_add_right _ _
      · rw [z]; exact Nat.le_refl _
    exact I1.fpOk hle (I1.hok.fresh hle)
/-- the pairs -/
def enumD : Nat → List PyData → List PyData
  | _, [] => []
  | k, d :: r => .tuple [.int (k : Nat), d] :: enumD (k + 1) r
theorem enumD_at : ∀ {ds : List PyData} {n k : Nat} {d : PyData}, (enumD n ds)[k]? = some d → ∃ a, ds[k]? = some a ∧ d = .tuple [.int ((n + k : Nat) : Int), a]
  | [], _, _, _, h => by simp [enumD] at h
  | a :: as, n, 0, d, h => ⟨a, rfl, by simpa [enumD] using h.symm⟩
  | a :: as, n, k + 1, d, h => by
    obtain ⟨x, p, e⟩ := enumD_at (ds := as) (n := n + 1) (k := k) (by simpa [enumD] using h)
    exact ⟨x, by simpa using p, by rw [e, show n + 1 + k = n + (k + 1) by omega]⟩
theorem enumD_len : ∀ (n : Nat) (ds : List PyData), (enumD n ds).length = ds.length
  | _, [] => rfl
  | n, d :: r => by rw [enumD, List.length_cons, enumD_len (n + 1) r, List.length_cons]
section
variable {K : PySem.W.Frag} {M : MM} {es : List Ent} {G1 : Hp}
theorem yl_enumT {a : Addr} {xs : List V} {ds : List PyData} (h : SqT K G1 a xs) (x : Rps K G1 xs ds) : Yl K G1 (IteT K a) (enumD 0 ds) := fun M G H e w => by
  have s := w.gh.t (e.t h)
  refine ⟨fun k d q => ?_, ⟨xs, s, ?_⟩⟩
  · obtain ⟨p, hp, rfl⟩ := enumD_at q
    obtain ⟨v, hv, rv⟩ := dps_at (dpsUp e _ _ x) hp
    refine ⟨⟨xs, v, s, hv⟩, fun z H1 ⟨T, x1, e1, n, e2, f1⟩ => ?_⟩
    subst e1 e2
    obtain rfl := Option.some.inj (hv.symm.trans (f1 xs s))
    rw [Nat.zero_add]
    exact w.pair n (.int _) rv
  · rw [enumD_len, ← dps_len x]
    exact Nat.le_refl _
theorem iw_enumT {ta : TA} {P : List PyData → MM → Prop} (h : EvA K ta es M fun as M1 => ∃ ds : List PyData, as = [.dat (.tuple ds)] ∧ P (enumD 0 ds) M1) : Iw K (iEnumT K ta) es M P := fun σ G H R en w k =>
  h σ G H _ en w fun as M1 vs G1 H1 p d g w1 x => by
    obtain ⟨ds, e, p⟩ := p
    subst e
    cases x with
    | cons x1 x2 =>
      cases x2
      cases x1 with
      | tup s a => exact ⟨_, _, rfl, w1.gh.t s, k _ M1 G1 H1 _ p d g w1 (yl_enumT s a)⟩
end
end Yw

set_option Elab.async false
set_option linter.all false
set_option maxRecDepth 100000
set_option maxHeartbeats 4000000
set_option exponentiation.threshold 20000
/-! Own layer: inequalities. -/
namespace Yw
open PySem PySem.Spec PyProof.Rows L2
section
variable {K : PySem.W.Frag} {M : MM} {P : Ent → MM → Prop}
end
theorem eqv_nilT {ds : List PyData} : PyData.eqv (.tuple ds) (.tuple []) = decide (ds = []) := by
  cases ds with
  | nil => rfl
  | cons d r => rfl
theorem shaped_nilT : SeqAt.shaped (.tuple []) = true := by decide
/-! ### sums of products -/
/-! ### the inequalities -/
/-! ### promises -/
section
variable {K : PySem.W.Frag} {M : MM} {Q : Ent → MM → Prop} {L : Int}
end
section
variable {K : PySem.W.Frag} {M : MM} {es : List Ent}
end
/-! ### by a whole number -/
end Yw

set_option Elab.async false
set_option linter.all false
set_option maxRecDepth 100000
set_option maxHeartbeats 1000000
/-! Own layer: all rows over so many cells, one by one, in order; how many; the one at a place. -/
namespace Yw
open PySem PySem.Spec PyProof.Rows L2
/-- the rows over n cells whose first run is at least r (k: how deep it goes) -/
def rowsF (lo most : Nat) : Nat → Nat → List (List Int)
  | 0, n => if n = 0 then [[]] else []
  | k + 1, n => if n = 0 then [[]] else ((List.range' lo (min most n + 1 - lo)).map fun r => (rowsF lo most k (n - r)).map fun q => ((r : Nat) : Int) :: q).flatten
theorem map_congr_mem {α β : Type} {f g : α → β} {l : List α} (h : ∀ a ∈ l, f a = g a) : l.map f = l.map g := List.map_congr_left h
theorem rowsF_up {lo most : Nat} (h1 : 1 ≤ lo) : ∀ k n, n ≤ k → rowsF lo most (k + 1) n = rowsF lo most k n
  | 0, n, h => by
    have e : n = 0 := by omega
    subst e
    simp [rowsF]
  | k + 1, n, h => by
    rw [rowsF, rowsF]
    by_cases e : n = 0
    · rw [if_pos e, if_pos e]
    · rw [if_neg e, if_neg e]
      congr 1
      refine map_congr_mem fun r hr => ?_
      have hr := (List.mem_range'_1.mp hr).1
      rw [rowsF_up h1 k (n - r) (by omega)]
def rowsL (lo most n : Nat) : List (List Int) := rowsF lo most n n
theorem rowsF_ge {lo most : Nat} (h1 : 1 ≤ lo) (n : Nat) : ∀ d, rowsF lo most (n + d) n = rowsL lo most n
  | 0 => rfl
  | d + 1 => by
    rw [← Nat.add_assoc, rowsF_up h1 (n + d) n (by omega)]
    exact rowsF_ge h1 n d
def fromQ (lo most n r : Nat) : List (List Int) := (rowsL lo most (n - r)).map fun q => ((r : Nat) : Int) :: q
/-- with a first run of at least r -/
def rowsR (lo most n r : Nat) : List (List Int) := ((List.range' r (min most n + 1 - r)).map (fromQ lo most n)).flatten
theorem rowsL_zero (lo most : Nat) : rowsL lo most 0 = [[]] := by simp [rowsL, rowsF]
theorem rowsL_eq {lo most n : Nat} (h1 : 1 ≤ lo) (hn : n ≠ 0) : rowsL lo most n = rowsR lo most n lo := by
  obtain ⟨m, rfl⟩ : ∃ m, n = m + 1 := ⟨n - 1, by omega⟩
  unfold rowsL rowsR
  rw [rowsF, if_neg hn]
  congr 1
  refine map_congr_mem fun r hr => ?_
  have hr := (List.mem_range'_1.mp hr).1
  unfold fromQ
  rw [← rowsF_ge h1 (m + 1 - r) (m - (m + 1 - r)), show m + 1 - r + (m - (m + 1 - r)) = m by omega]
theorem rowsR_step {lo most n r : Nat} (h : r ≤ min most n) : rowsR lo most n r = fromQ lo most n r ++ rowsR lo most n (r + 1) := by
  unfold rowsR
  rw [show min most n + 1 - r = (min most n + 1 - (r + 1)) + 1 by omega, List.range'_succ, List.map_cons, List.flatten_cons]
theorem rowsR_end {lo most n r : Nat} (h : min most n < r) : rowsR lo most n r = [] := by
  unfold rowsR
  rw [show min most n + 1 - r = 0 by omega]
  rfl
theorem fromQ_len (lo most n r : Nat) : (fromQ lo most n r).length = (rowsL lo most (n - r)).length := List.length_map _
/-- what a row of them is like -/
theorem rowsL_mem {lo most : Nat} (h1 : 1 ≤ lo) : ∀ (k n : Nat), n ≤ k → ∀ q ∈ rowsL lo most n, q.sum = (n : Int) ∧ q.length ≤ n ∧ ∀ x ∈ q, (lo : Int) ≤ x ∧ x ≤ (most : Int)
  | k, 0, _, q, hq => by
    rw [rowsL_zero] at hq
    have e : q = [] := by simpa using hq
    subst e
    simp
  | 0, n + 1, h, q, hq => by omega
  | k + 1, n + 1, h, q, hq => by
    rw [rowsL_eq h1 (by omega)] at hq
    unfold rowsR at hq
    obtain ⟨l, hl, hq⟩ := List.mem_flatten.mp hq
    obtain ⟨r, hr, rfl⟩ := List.mem_map.mp hl
    obtain ⟨r1, r2⟩ := List.mem_range'_1.mp hr
    obtain ⟨p, hp, rfl⟩ := List.mem_map.mp hq
    obtain ⟨a, b, c⟩ := rowsL_mem h1 k (n + 1 - r) (by omega) p hp
    refine ⟨?_, ?_, fun x hx => ?_⟩
    · rw [List.sum_cons, a]; omega
    · rw [List.length_cons]; omega
    · rcases List.mem_cons.mp hx with e | e
      · rw [e]; omega
      · exact c x e
/-- no more than the halvings of the cells -/
theorem rowsL_few {lo most : Nat} (h1 : 1 ≤ lo) : ∀ (k n : Nat), n ≤ k → (rowsL lo most n).length ≤ 2 ^ n
  | k, 0, _ => by rw [rowsL_zero]; decide
  | 0, n + 1, h => by omega
  | k + 1, n + 1, h => by
    rw [rowsL_eq h1 (by omega)]
    have key : ∀ (d r : Nat), 1 ≤ r → min most (n + 1) + 1 - r = d → (rowsR lo most (n + 1) r).length ≤ 2 ^ (n + 1 - (r - 1)) := by
      intro d
      induction d with
      | zero =>
        intro r hr hd
        rw [rowsR_end (by omega)]
        exact Nat.zero_le _
      | succ d ih =>
        intro r hr hd
        have hm : r ≤ min most (n + 1) := by omega
        rw [rowsR_step hm, List.length_append, fromQ_len]
        have a := rowsL_few h1 k (n + 1 - r) (by omega) (most := most)
        have b := ih (r + 1) (by omega) (by omega)
        rw [show r + 1 - 1 = r by omega] at b
        rw [show n + 1 - (r - 1) = (n + 1 - r) + 1 by omega, Nat.pow_succ]
        omega
    have c := key _ lo h1 rfl
    refine Nat.le_trans c (Nat.pow_le_pow_right (by decide) (by omega))
/-! ### promises -/
section
variable {K : PySem.W.Frag} {M : MM} {Q : Ent → MM → Prop}
end
section
variable {K : PySem.W.Frag} {M : MM} {es : List Ent}
end
section
variable {K : PySem.W.Frag} {M : MM} {Q : Ent → MM → Prop}
end
section
variable {K : PySem.W.Frag} {M : MM} {es : List Ent} {P : Ent → MM → Prop} {te : TE}
end
end Yw

set_option Elab.async false
set_option linter.all false
set_option maxRecDepth 100000
set_option maxHeartbeats 4000000
/-! Own layer: a def that may let an exception out (guards known empty). -/
namespace Yw
open PySem PySem.Spec PyProof.Rows L2
section
variable {P : Program} {w : World} {K : PySem.W.Frag} {mg : Str → Option Value} {base : Heap}
end
section
variable {X : Cx} {k : Nat} {f : Addr} {fd : FuncData} {ps : List Str} {sp : Sp} {x : Str} {p pos : Pos} {e : Expr} {es : List Expr} {t : TA} {E : L2.St → XK}
end
end Yw

set_option Elab.async false
set_option linter.all false
set_option maxRecDepth 100000
set_option maxHeartbeats 4000000
/-! Own layer: pow with a modulus, an int written at the top, the field of 97. -/
namespace Yw
open PySem PySem.Spec PyProof.Rows L2
section
open PySem.Calls
end
section
variable {K : PySem.W.Frag} {M : MM} {P : Ent → MM → Prop} {i j : Int}
end
section
variable {K : PySem.W.Frag} {M : MM} {es : List Ent}
/-- a, b = [..], x, the first of which may change -/
theorem sj_parM {D0 : List Addr} {W : DE} {i j : Nat} {ta : TA} {tb : TE} (h : EvA K ta es M fun as M1 => ∃ ds, Ds as ds ∧ ds.length ≤ 100000 ∧ ∀ p, p ∉ D0 → Ev K tb es (M1 ++ [(p, .lst ds)]) fun b M2 => W.nx ((es.set i (.ref p)).set j b) M2) :
    Sj K D0 (tPar i j (tCons (tLst ta) (tCons tb tNil))) es M W := by
  intro G0 H0 σ H D ⟨G, f, en⟩ l
  have q : ∀ (a b : V) (R : V → V → Prop), (∃ v w, [a, b] = [v, w] ∧ R v w) = R a b := fun a b R => propext ⟨fun ⟨v, w, e, r⟩ => by cases e; exact r, fun r => ⟨a, b, rfl, r⟩⟩
  simp only [tPar, tCons, tNil, tLst, q]
  refine h σ G H _ en f.wf fun as M1 vs G1 H1 p d g w x => ?_
  obtain ⟨ds, e, n, k⟩ := p
  rw [e.eq] at x
  have xd := EnA.dats x
  refine ⟨by rw [dps_len xd]; exact Nat.le_trans n (by decide), fun r hr => ?_⟩
  have f1 := f.step g w d
  have u := w.newM hr xd
  have fN : Far K G0 D0 H0 G1 (M1 ++ [(r, .lst ds)]) (upd H1 r (.lst vs)) := ⟨f1.gr.transN u.2 f1.own, u.1, fun a ha => by
    unfold dom at ha
    rw [List.map_append] at ha
    rcases List.mem_append.mp ha with t | t
    · exact f1.own a t
    · have : a = r := by simpa using t
      subst this
      cases z0 : H0 a with
      | none => exact .inr rfl
      | some o => exact absurd hr (f1.gr.al a (by rw [z0]; exact fun x => nomatch x)), f1.bs⟩
  refine k r (fun hb => f1.gr.al r (f1.bs r hb) hr) σ G1 _ _ (en.up g.gg) fN.wf fun b M2 y G2 H2 h2 d2 g2 w2 yb => ?_
  have f2 := fN.step g2 w2 d2
  exact l.nx _ _ _ _ h2 ⟨G2, f2, (((en.up g.gg).up g2.gg).put (e := .ref r) rfl i).put yb j⟩
end
end Yw

set_option Elab.async false
set_option linter.all false
set_option maxRecDepth 100000
set_option maxHeartbeats 4000000
/-! Own layer: an own error with one field: made, raised, caught, its field read. -/
namespace Yw
open PySem PySem.Spec PyProof.Rows L2
section
variable {X : Cx} {e : Expr} {es : List Expr} {ta : TA} {p pos : Pos}
end
section
variable {P : Program} {w : World} {K : PySem.W.Frag} {mg : Str → Option Value} {base : Heap} {fld qual : Str} {params : Arguments} {body : List Stmt} {scope : Scope} {fI : Addr} {fd : FuncData}
end
section
variable {K : PySem.W.Frag} {M : MM} {es : List Ent} {G H : Hp} {σ : L2.St} {Q : XK} {C : Addr} {fld : Str} {ta : TA} {x : PyData}
end
/-! ### a def that may let one own error out -/
section
variable {K : PySem.W.Frag} {es : List Ent} {C : Addr} {fld : Str} {E : XK} {x : PyData} {te : TE} {t u : TS}
end
section
variable {P : Program} {w : World} {K : PySem.W.Frag} {mg : Str → Option Value} {base : Heap} {x : Str} {st : Stmt} {N ps : List Str} {k : Nat} {R : RR} {RX : List PyData → PyData → Prop} {C : Addr} {fld : Str}
end
/-! ### raise, try, except as statements -/
section
variable {X : Cx} {W : WX} {nm fld : Str} {C fI : Addr} {e : Expr} {es : List Expr} {ta : TA} {p pos pos2 : Pos}
end
section
variable {P : Program} {w : World} {K : PySem.W.Frag} {mg : Str → Option Value} {base : Heap} {x : Str} {st : Stmt} {N ps : List Str}
end
section
variable {X : Cx} {a C : Addr} {oe : Obj} {cls : Value} {d : Option Addr} {pn : List (Addr × Obj)} {k j : Nat} {x : Str} {ps : List Str} {sp : Sp} {e : Expr} {es : List Expr} {t : TA} {p pos : Pos}
end
section
variable {K : PySem.W.Frag} {G H : Hp} {dd : Addr} {o : HO}
end
section
variable {K : PySem.W.Frag} {D0 : List Addr} {es : List Ent} {W : DE} {i j : Nat} {ta : TA} {C : Addr} {fld : Str} {R : RR} {RX : List PyData → PyData → Prop} {n : Int}
end
end Yw

set_option Elab.async false
set_option linter.all false
set_option maxRecDepth 100000
set_option maxHeartbeats 4000000
/-! Own layer: the field of 97, polynomials over it as lists, through points, weights. -/
namespace Yw
open PySem PySem.Spec PyProof.Rows L2
/-! ### the field -/
abbrev F97 := Fin 97
def fI (x : F97) : Int := (x.val : Int)
/-! ### polynomials -/
def ev : List F97 → F97 → F97
  | [], _ => 0
  | c :: cs, x => ev cs x * x + c
/-! ### through points -/
/-! ### weights -/
end Yw
namespace Yw
open PySem PySem.Spec PyProof.Rows L2
/-! ### reversed of a tuple or a list, walked -/
section
variable {K : PySem.W.Frag} {G1 : Hp} {es : List Ent} {M : MM} {te : TE}
end
/-! ### promises over the field -/
section
variable {K : PySem.W.Frag} {M : MM} {P : Ent → MM → Prop}
end
end Yw

set_option Elab.async false
set_option linter.all false
set_option maxRecDepth 100000
set_option maxHeartbeats 4000000
/-! Own layer: zip of a tuple and a list. -/
namespace Yw
open PySem PySem.Spec PyProof.Rows L2
theorem apart5 {n a b : Nat} (ha : a < n) (hb : b < n) : ZipSep2 (n + 4) (n + 2) (n + 3) n (n + 1) [n, a] [n + 1, b] := by
  have ne : ∀ x y : Nat, (x = y → False) → ¬ @Eq Addr x y := fun x y h e => h e
  have two : ∀ x y z : Nat, (x = y → False) → (x = z → False) → ¬ @Membership.mem Addr (List Addr) _ [y, z] x := fun x y z h1 h2 h => by
    rcases List.mem_cons.mp h with e | e
    · exact h1 e
    · exact h2 (List.mem_singleton.mp e)
  exact ⟨ne _ _ (by omega), ne _ _ (by omega), ne _ _ (by omega), ne _ _ (by omega), List.mem_cons_self .., two _ _ _ (by omega) (by omega), two _ _ _ (by omega) (by omega), ne _ _ (by omega), List.mem_cons_self .., two _ _ _ (by omega) (by omega), two _ _ _ (by omega) (by omega), two _ _ _ (by omega) (by omega), two _ _ _ (by omega) (by omega)⟩
def M5 (n : Nat) : List Addr := [n + 4, n + 2, n + 3, n, n + 1]
theorem m5 {n c : Nat} (h : c ∈ M5 n) : c = n + 4 ∨ c = n + 2 ∨ c = n + 3 ∨ c = n ∨ c = n + 1 := by simpa [M5] using h
section
variable {K : PySem.W.Frag} {G1 : Hp} {es : List Ent} {M : MM}
end
end Yw

namespace Yw
open PySem PySem.Spec PyProof.Rows L2
end Yw
namespace Yw
open PySem PySem.Spec PyProof.Rows L2
section
variable {K : PySem.W.Frag} {M : MM} {P : Ent → MM → Prop}
theorem c_lenM {p : Addr} {ds : List PyData} (hm : (p, MO.lst ds) ∈ M) (q : P (.dat (.int (ds.length : Nat))) M) : Cb K (fun xs H Q => ∃ p ys, xs = [.ref p] ∧ (SqL K H p ys ∨ SqT K H p ys) ∧ Q (.int ys.length) H) [.ref p] M P := fun vs G H Q a w r => by
  cases a with
  | cons x y =>
    cases y
    rename_i v
    obtain rfl : v = V.ref p := x
    obtain ⟨xs, hx, hd⟩ := w.mh _ hm
    exact ⟨_, _, rfl, .inl (SqL.of hx), by rw [dps_len hd]; exact r.val w q (.int _)⟩
theorem rps_flat {G : Hp} {vs : List V} {ds : List PyData} (h : Rps K G vs ds) : ∀ n, Rps K G (List.replicate n vs).flatten (List.replicate n ds).flatten
  | 0 => .nil
  | n + 1 => by
    rw [List.replicate_succ, List.replicate_succ, List.flatten_cons, List.flatten_cons]
    exact dps_app h (rps_flat h n)
theorem o_repL {ds : List PyData} {k : Int} (h0 : 0 ≤ k) (h1 : k ≤ 1000) (hl : ds.length ≤ 1000) (p : P (.dat (.list (List.replicate k.toNat ds).flatten)) M) : Op2 K rRep (.dat (.list ds)) (.dat (.int k)) M P := fun x y G H Q a b w r => by
  cases b
  cases a with
  | lst s h =>
    have hk : k.toNat ≤ 1000 := by omega
    have e := dps_len h
    refine ⟨_, k, _, rfl, rfl, w.gh _ _ s, by omega, by omega, ?_, r.new w p fun a c => .lst upd_same (dpsUp (Ex.add c) _ _ (rps_flat h _))⟩
    rw [e]
    exact Nat.le_trans (Nat.mul_le_mul hl hk) (by decide)
end
/-! ### the 97 in some order -/
end Yw

set_option Elab.async false
set_option linter.all false
set_option maxRecDepth 100000
set_option maxHeartbeats 4000000
/-! Own layer: rows in the order of Python, the first and the last one, how many bits; t < u, min and max of a list, bit_length. -/
namespace Yw
open PySem PySem.Spec PyProof.Rows L2
/-! ### t < u -/
section
variable {K : PySem.W.Frag} {M : MM} {P : Ent → MM → Prop}
end
/-! ### the order of the rows -/
/-! ### the first and the last one -/
/-! ### bits -/
end Yw
namespace Yw
open PySem PySem.Spec PyProof.Rows L2
section
variable {K : PySem.W.Frag} {M : MM} {Q : Ent → MM → Prop} {c dr sh : PyData} {le l m d : Int}
end
section
variable {K : PySem.W.Frag} {D0 : List Addr} {es : List Ent} {W : DE} {ta : TA} {C : Addr} {fld : Str} {R : RR} {RX : List PyData → PyData → Prop}
end
end Yw
namespace Yw
open PySem PySem.Spec PyProof.Rows L2
section
variable {K : PySem.W.Frag} {M : MM} {es : List Ent}
end
end Yw

set_option Elab.async false
set_option linter.all false
set_option maxRecDepth 100000
set_option maxHeartbeats 4000000
/-! Own layer: a stack that is popped, the truth of a list, rows sorted that were so, a try that keeps what it tells. -/
namespace Yw
open PySem PySem.Spec PyProof.Rows L2
section
variable {K : PySem.W.Frag} {M : MM} {es : List Ent}
variable {Mb : MM} {P : Ent → MM → Prop}
end
/-! ### a try that keeps a new list -/
section
variable {K : PySem.W.Frag} {D0 : List Addr} {es : List Ent} {W : DE} {i : Nat} {ta : TA} {C : Addr} {fld : Str} {R : RR} {RX : List PyData → PyData → Prop} {WW : Ends → WX}
end
/-! ### isinstance of an error that is held, where it is so -/
section
variable {K : PySem.W.Frag} {x D : Addr} {ox : Obj} {od : Option Obj}
end
section
variable {K : PySem.W.Frag} {D0 : List Addr} {es : List Ent} {W : DE} {i j km : Nat} {ta : TA} {C : Addr} {fld : Str} {R : RR} {RX : List PyData → PyData → Prop} {m : Int}
end
/-! ### promises -/
section
variable {K : PySem.W.Frag} {M : MM} {Q : Ent → MM → Prop} {c dr sh : PyData} {le l m d : Int}
end
end Yw

set_option Elab.async false
set_option linter.all false
set_option maxRecDepth 100000
set_option maxHeartbeats 4000000
/-! Own layer: few rows mean few at every step before (runs up to 16, up to 40 cells). -/
namespace Yw
open PySem PySem.Spec PyProof.Rows L2
/-! ### a stack of rows begun -/
end Yw

set_option Elab.async false
set_option linter.all false
set_option maxRecDepth 100000
set_option maxHeartbeats 1000000
/-! Own layer: index and membership in a tuple, rows compared, reversed(range(n)). -/
namespace Yw
open PySem PySem.Spec PyProof.Rows L2
section
variable {X : Cx}
end
section
variable {K : PySem.W.Frag} {M Mb : MM} {P : Ent → MM → Prop} {es : List Ent} {i j : Int}
theorem flat_ints : ∀ ns : List Int, (ns.map V.int).all flatV = true
  | [] => rfl
  | n :: ns => by
    rw [List.map_cons, List.all_cons, flat_ints ns]
    rfl
theorem eqV_int (a b : Int) : eqV (.int a) (.int b) = decide (a = b) := by
  by_cases h : a = b
  · subst h
    simp [eqV]
  · simp [eqV, h]
theorem in_ints (c : Int) : ∀ ns : List Int, inV (.int c) (ns.map V.int) = ns.contains c
  | [] => rfl
  | n :: ns => by
    have ih := in_ints c ns
    unfold inV at ih ⊢
    rw [List.map_cons, List.any_cons, ih, List.contains_cons, eqV_int]
    congr 1
    by_cases h : n = c
    · subst h; simp
    · have h2 : ¬ c = n := fun e => h e.symm
      simp [h, h2]
theorem o_notInI {c : Int} {d : PyData} {ns : List Int} (s : Sq d (ns.map .int)) (p : P (.dat (.bool (!ns.contains c))) M) : Op2 K (rIn K true) (.dat (.int c)) (.dat d) M P := fun x y G H Q a b w r => by
  cases a
  cases s with
  | lst =>
    cases b with
    | lst s h =>
      obtain rfl := dps_ints h
      refine ⟨_, _, rfl, .inl (SqL.of (w.gh _ _ s)), rfl, flat_ints ns, ?_⟩
      rw [in_ints]
      exact r.val w p (.bl _)
  | tup =>
    cases b with
    | tup s h =>
      obtain rfl := dps_ints h
      refine ⟨_, _, rfl, .inr (w.gh.t s), rfl, flat_ints ns, ?_⟩
      rw [in_ints]
      exact r.val w p (.bl _)
/-! ### a def that tells a tuple whose object is known -/
/-! ### None or not -/
def isNone : PyData → Bool
  | .none => true
  | _ => false
theorem o_isN2 {a : PyData} (p : P (.dat (.bool (isNone a))) M) : Op2 K (fun x y H Q => y = .non ∧ Q (.bl (decide (x = .non))) H) (.dat a) (.dat .none) M P := o_isN p
theorem o_notN2 {a : PyData} (p : P (.dat (.bool (!isNone a))) M) : Op2 K (fun x y H Q => y = .non ∧ Q (.bl (!decide (x = .non))) H) (.dat a) (.dat .none) M P := o_notN (by cases a <;> exact p)
/-! ### rows compared -/
theorem cut_fromG (ds : List PyData) (k : Nat) : cutY ds (some ((k : Nat) : Int)) none = ds.drop k := by
  by_cases h : k ≤ ds.length
  · exact cut_from ds h
  · unfold cutY
    rw [show HT.sIx ds.length 0 (some ((k : Nat) : Int)) = min k ds.length from HT.sIx_nat ds.length 0 k, Nat.min_eq_right (by omega), List.drop_length, List.take_nil, List.drop_eq_nil_of_le (by omega)]
theorem cut_toG (ds : List PyData) (k : Nat) : cutY ds none (some ((k : Nat) : Int)) = ds.take k := by
  by_cases h : k ≤ ds.length
  · exact cut_to ds h
  · unfold cutY
    rw [show HT.sIx ds.length ds.length (some ((k : Nat) : Int)) = min k ds.length from HT.sIx_nat ds.length ds.length k, Nat.min_eq_right (by omega), show HT.sIx ds.length 0 none = 0 from rfl, List.drop_zero, Nat.sub_zero, List.take_length, List.take_of_length_le (by omega)]
end
end Yw

set_option Elab.async false
set_option linter.all false
set_option maxRecDepth 100000
set_option maxHeartbeats 1000000
/-! Own layer: a dict with int keys that changes, isqrt, x or y of values. -/
namespace Yw
open PySem PySem.Spec PyProof.Rows L2
/-! ### tables of data -/
abbrev KVs := List (Key × PyData)
def valD (kvs : KVs) (k : Key) : Option PyData := (kvs.find? fun kv => decide (kv.1 = k)).map (·.2)
def putD (kvs : KVs) (k : Key) (v : PyData) : KVs :=
  if (kvs.any fun kv => decide (kv.1 = k)) = true then kvs.map (fun kv => if kv.1 = k then (kv.1, v) else kv) else kvs ++ [(k, v)]
theorem valD_cons (p : Key × PyData) (r : KVs) (k : Key) : valD (p :: r) k = if p.1 = k then some p.2 else valD r k := by
  unfold valD
  rw [List.find?_cons]
  by_cases h : p.1 = k <;> simp [h]
theorem valD_app (a b : KVs) (k : Key) : valD (a ++ b) k = (valD a k).or (valD b k) := by
  induction a with
  | nil => simp [valD]
  | cons p r ih =>
    rw [List.cons_append, valD_cons, valD_cons, ih]
    by_cases h : p.1 = k <;> simp [h]
theorem valD_any (kvs : KVs) (k : Key) : (kvs.any fun kv => decide (kv.1 = k)) = (valD kvs k).isSome := by
  induction kvs with
  | nil => rfl
  | cons p r ih =>
    rw [List.any_cons, valD_cons, ih]
    by_cases h : p.1 = k <;> simp [h]
theorem valD_map (kvs : KVs) (k j : Key) (v : PyData) : valD (kvs.map fun kv => if kv.1 = k then (kv.1, v) else kv) j = if j = k then (valD kvs j).map fun _ => v else valD kvs j := by
  induction kvs with
  | nil => simp [valD]
  | cons p r ih =>
    rw [List.map_cons, valD_cons, ih, valD_cons]
    by_cases h : p.1 = k
    · rw [if_pos h]
      by_cases e : j = k
      · subst e; simp [h]
      · have : ¬ p.1 = j := fun z => e (z.symm.trans h)
        simp [e, this]
    · rw [if_neg h]
      by_cases e : p.1 = j
      · have : ¬ j = k := fun z => h (e.trans z)
        simp [e, this]
      · simp [e]
theorem valD_put (kvs : KVs) (k j : Key) (v : PyData) : valD (putD kvs k v) j = if j = k then some v else valD kvs j := by
  unfold putD
  rw [valD_any]
  cases h : valD kvs k with
  | none =>
    rw [if_neg (by simp), valD_app, valD_cons]
    by_cases e : j = k
    · subst e; simp [h]
    · have : ¬ k = j := fun z => e z.symm
      cases valD kvs j <;> simp [e, this, valD]
  | some d =>
    rw [if_pos (by simp), valD_map]
    by_cases e : j = k
    · subst e; simp [h]
    · simp [e]
/-- no more keys than there may be -/
theorem nodup_lt : ∀ (n : Nat) (l : List Nat), l.Nodup → (∀ x ∈ l, x < n) → l.length ≤ n
  | 0, l, _, h => by
    cases l with
    | nil => exact Nat.le_refl _
    | cons x _ => exact absurd (h x (List.mem_cons_self ..)) (by omega)
  | n + 1, l, d, h => by
    have d2 := d.erase n
    have h2 : ∀ x ∈ l.erase n, x < n := fun x hx => by
      have m := (List.Nodup.mem_erase_iff d).mp hx
      have := h x m.2
      have := m.1
      omega
    have ih := nodup_lt n _ d2 h2
    by_cases c : n ∈ l
    · have := List.length_erase_of_mem c
      omega
    · rw [List.erase_of_not_mem c] at ih
      omega
def KeysIn (n : Nat) (kvs : KVs) : Prop := ∃ ns : List Nat, kvs.map (·.1) = ns.map (fun (i : Nat) => (Sum.inl (i : Int) : Key)) ∧ ns.Nodup ∧ ∀ x ∈ ns, x < n
theorem KeysIn.put {n : Nat} {kvs : KVs} (h : KeysIn n kvs) {i : Nat} (hi : i < n) (v : PyData) : KeysIn n (putD kvs (.inl (i : Int)) v) := by
  obtain ⟨ns, e, d, l⟩ := h
  unfold putD
  split
  · refine ⟨ns, ?_, d, l⟩
    rw [List.map_map, ← e]
    exact List.map_congr_left fun p _ => by
      show (if p.1 = Sum.inl (i : Int) then (p.1, v) else p).1 = p.1
      split <;> rfl
  · rename_i c
    refine ⟨ns ++ [i], by rw [List.map_append, List.map_append, e]; rfl, ?_, fun x hx => ?_⟩
    · refine List.nodup_append.mpr ⟨d, by simp, fun a ha b hb z => ?_⟩
      have hb : b = i := by simpa using hb
      subst hb
      subst z
      have m : (Sum.inl ((a : Nat) : Int) : Key) ∈ kvs.map (·.1) := by
        rw [e]
        exact List.mem_map.mpr ⟨a, ha, rfl⟩
      obtain ⟨q, hq, e2⟩ := List.mem_map.mp m
      exact c (List.any_eq_true.mpr ⟨q, hq, decide_eq_true e2⟩)
    · rcases List.mem_append.mp hx with hx | hx
      · exact l x hx
      · rw [List.mem_singleton.mp hx]; exact hi
theorem KeysIn.len {n : Nat} {kvs : KVs} (h : KeysIn n kvs) : kvs.length ≤ n := by
  obtain ⟨ns, e, d, l⟩ := h
  have := congrArg List.length e
  rw [List.length_map, List.length_map] at this
  have := nodup_lt n ns d l
  omega
section
variable {K : PySem.W.Frag} {G H : Hp}
abbrev KR (K : PySem.W.Frag) (G : Hp) : (Key × V) → (Key × PyData) → Prop := fun p q => p.1 = q.1 ∧ Rp K G p.2 q.2
theorem kr_val {k : Key} : ∀ {vs : List (Key × V)} {kvs : KVs}, Paired (KR K G) vs kvs → (valV vs k = none ∧ valD kvs k = none) ∨ ∃ v d, valV vs k = some v ∧ valD kvs k = some d ∧ Rp K G v d
  | _, _, .nil => .inl ⟨rfl, rfl⟩
  | p :: vs, q :: kvs, .cons r t => by
    by_cases h : q.1 = k
    · exact .inr ⟨p.2, q.2, valV_pos (r.1.trans h), by rw [valD_cons, if_pos h], r.2⟩
    · rw [valV_neg (fun z => h (r.1.symm.trans z)), valD_cons, if_neg h]
      exact kr_val t
theorem kr_any {k : Key} : ∀ {vs : List (Key × V)} {kvs : KVs}, Paired (KR K G) vs kvs → (vs.any fun kv => decide (kv.1 = k)) = kvs.any fun kv => decide (kv.1 = k)
  | _, _, .nil => rfl
  | p :: vs, q :: kvs, .cons r t => by rw [List.any_cons, List.any_cons, kr_any t, r.1]
theorem kr_map {k : Key} {v : V} {d : PyData} (x : Rp K G v d) : ∀ {vs : List (Key × V)} {kvs : KVs}, Paired (KR K G) vs kvs → Paired (KR K G) (vs.map fun kv => if kv.1 = k then (kv.1, v) else kv) (kvs.map fun kv => if kv.1 = k then (kv.1, d) else kv)
  | _, _, .nil => .nil
  | p :: vs, q :: kvs, .cons r t => by
    refine .cons ?_ (kr_map x t)
    show KR K G (if p.1 = k then (p.1, v) else p) (if q.1 = k then (q.1, d) else q)
    rw [r.1]
    by_cases h : q.1 = k
    · rw [if_pos h, if_pos h]; exact ⟨rfl, x⟩
    · rw [if_neg h, if_neg h]; exact r
theorem kr_app : ∀ {vs ws : List (Key × V)} {kvs lws : KVs}, Paired (KR K G) vs kvs → Paired (KR K G) ws lws → Paired (KR K G) (vs ++ ws) (kvs ++ lws)
  | _, _, _, _, .nil, b => b
  | _ :: _, _, _ :: _, _, .cons r t, b => .cons r (kr_app t b)
theorem kr_put {k : Key} {v : V} {d : PyData} {vs : List (Key × V)} {kvs : KVs} (h : Paired (KR K G) vs kvs) (x : Rp K G v d) : Paired (KR K G) (putK vs k v) (putD kvs k d) := by
  unfold putK putD
  rw [kr_any h]
  split
  · exact kr_map x h
  · exact kr_app h (.cons ⟨rfl, x⟩ .nil)
theorem kr_len : ∀ {vs : List (Key × V)} {kvs : KVs}, Paired (KR K G) vs kvs → vs.length = kvs.length
  | _, _, .nil => rfl
  | _ :: _, _ :: _, .cons _ t => congrArg (· + 1) (kr_len t)
/-- one dict is changed -/
theorem Wf.chgD {Ma Mb : MM} {p : Addr} {mo : MO} {vs : List (Key × V)} {kvs : KVs} (W : Wf K G (Ma ++ (p, mo) :: Mb) H) (hd : Paired (KR K G) vs kvs) :
    Wf K G (Ma ++ (p, .dct kvs) :: Mb) (upd H p (.dK vs)) ∧ Grow (dom (Ma ++ (p, mo) :: Mb)) G H G (upd H p (.dK vs)) := by
  have nd := W.nd
  have ed : dom (Ma ++ (p, MO.dct kvs) :: Mb) = dom (Ma ++ (p, mo) :: Mb) := by simp [dom]
  have hg : G p = none := W.mg (p, mo) (by simp)
  have oth : ∀ x, x ∈ Ma ∨ x ∈ Mb → x.1 ≠ p := by
    intro x hx c
    unfold dom at nd
    rw [List.map_append, List.map_cons] at nd
    have ap := List.nodup_append.mp nd
    rcases hx with q | q
    · exact ap.2.2 _ (List.mem_map.mpr ⟨x, q, rfl⟩) p (by simp) c
    · exact (List.nodup_cons.mp ap.2.1).1 (c ▸ List.mem_map.mpr ⟨x, q, rfl⟩)
  refine ⟨⟨fun a u e => ?_, fun x hx => ?_, fun x hx => ?_, by rw [ed]; exact nd⟩, ⟨Ex.rfl' G, fun _ _ => rfl, fun a u e n => ?_, fun a n => ?_⟩⟩
  · rw [upd_ne (ne_of_none e hg)]; exact W.gh a u e
  · rcases List.mem_append.mp hx with q | q
    · exact moUp (Ex.rfl' G) (upd_ne (oth x (.inl q))) (W.mh x (List.mem_append_left _ q))
    · rcases List.mem_cons.mp q with q | q
      · subst q; exact ⟨vs, upd_same, hd⟩
      · exact moUp (Ex.rfl' G) (upd_ne (oth x (.inr q))) (W.mh x (List.mem_append_right _ (List.mem_cons_of_mem _ q)))
  · rcases List.mem_append.mp hx with q | q
    · exact W.mg x (List.mem_append_left _ q)
    · rcases List.mem_cons.mp q with q | q
      · subst q; exact hg
      · exact W.mg x (List.mem_append_right _ (List.mem_cons_of_mem _ q))
  · rw [upd_ne fun z => n (by rw [z]; simp [dom])]; exact e
  · by_cases z : a = p
    · rw [z, upd_same]; exact fun x => nomatch x
    · rw [upd_ne z]; exact n
/-- a new dict that may change -/
theorem Wf.newD {M : MM} (W : Wf K G M H) {p : Addr} {vs : List (Key × V)} {kvs : KVs} (h : H p = none) (hd : Paired (KR K G) vs kvs) :
    Wf K G (M ++ [(p, .dct kvs)]) (upd H p (.dK vs)) ∧ Grow (dom M) G H G (upd H p (.dK vs)) := by
  have hg := W.none_g h
  have hm := W.none_m h
  refine ⟨⟨W.gh.tr (Ex.add h), fun x hx => ?_, fun x hx => ?_, ?_⟩, ⟨Ex.rfl' G, fun _ _ => rfl, fun a u e _ => Ex.add h a u e, fun a n => ?_⟩⟩
  · rcases List.mem_append.mp hx with q | q
    · have c : x.1 ≠ p := fun c => hm (c ▸ List.mem_map.mpr ⟨x, q, rfl⟩)
      exact moUp (Ex.rfl' G) (upd_ne c) (W.mh x q)
    · obtain rfl := List.mem_singleton.mp q
      exact ⟨vs, upd_same, hd⟩
  · rcases List.mem_append.mp hx with q | q
    · exact W.mg x q
    · obtain rfl := List.mem_singleton.mp q
      exact hg
  · show (List.map _ (M ++ _)).Nodup
    rw [List.map_append]
    exact List.nodup_append.mpr ⟨W.nd, by simp, fun a ha b hb e => by
      have hb : b = p := by simpa using hb
      subst hb
      subst e
      exact hm ha⟩
  · by_cases z : a = p
    · rw [z, upd_same]; exact fun x => nomatch x
    · rw [upd_ne z]; exact n
end
section
variable {K : PySem.W.Frag} {M Mb : MM} {P : Ent → MM → Prop} {es : List Ent} {i j : Int}
/-- d[k] -/
theorem ev_dget {td ty : TE} (h : Ev K td es M fun a M1 => Ev K ty es M1 fun b M2 => ∃ p kvs k d, a = .ref p ∧ b = .dat (.int k) ∧ (p, MO.dct kvs) ∈ M2 ∧ valD kvs (.inl k) = some d ∧ P (.dat d) M2) : Ev K (tDGet td ty) es M P := fun σ G H Q en w q =>
  h σ G H _ en w fun a M1 x G1 H1 ha e1 g1 w1 xa => ha σ G1 H1 _ (en.up g1.gg) w1 fun b M2 y G2 H2 hb e2 g2 w2 yb => by
    obtain ⟨p, kvs, k, d, rfl, rfl, hm, hv, pd⟩ := hb
    obtain rfl : x = .ref p := xa
    cases yb
    obtain ⟨vs, hx, hr⟩ := w2.mh _ hm
    rcases kr_val (k := .inl k) hr with ⟨_, c⟩ | ⟨v, d2, e, c, r⟩
    · rw [hv] at c; cases c
    · rw [hv] at c
      cases c
      exact ⟨p, v, rfl, .inl ⟨vs, .inl k, .inl hx, rfl, e.symm⟩, q _ _ _ _ _ pd (e2.trans e1) (g1.trans (by rw [e1] at g2; exact g2)) w2 r⟩
theorem ev_din {td ty : TE} (h : Ev K ty es M fun b M1 => Ev K td es M1 fun a M2 => ∃ p kvs k, a = .ref p ∧ b = .dat (.int k) ∧ (p, MO.dct kvs) ∈ M2 ∧ P (.dat (.bool (valD kvs (.inl k)).isSome)) M2) : Ev K (tDIn ty td) es M P := fun σ G H Q en w q =>
  h σ G H _ en w fun b M1 y G1 H1 hb e1 g1 w1 yb => hb σ G1 H1 _ (en.up g1.gg) w1 fun a M2 x G2 H2 ha e2 g2 w2 xa => by
    obtain ⟨p, kvs, k, rfl, rfl, hm, pd⟩ := ha
    obtain rfl : x = .ref p := xa
    cases yb
    obtain ⟨vs, hx, hr⟩ := w2.mh _ hm
    refine ⟨p, valV vs (.inl k), rfl, .inl ⟨vs, .inl k, .inl hx, rfl, rfl⟩, ?_⟩
    have : (valV vs (.inl k)).isSome = (valD kvs (.inl k)).isSome := by
      rcases kr_val (k := .inl k) hr with ⟨a, c⟩ | ⟨v, d2, e, c, r⟩
      · rw [a, c]; rfl
      · rw [e, c]; rfl
    rw [this]
    exact q _ _ _ _ _ pd (e2.trans e1) (g1.trans (by rw [e1] at g2; exact g2)) w2 (.bl _)
theorem ev_dnotin {td ty : TE} (h : Ev K ty es M fun b M1 => Ev K td es M1 fun a M2 => ∃ p kvs k, a = .ref p ∧ b = .dat (.int k) ∧ (p, MO.dct kvs) ∈ M2 ∧ P (.dat (.bool (!(valD kvs (.inl k)).isSome))) M2) : Ev K (tDNotIn ty td) es M P := fun σ G H Q en w q =>
  h σ G H _ en w fun b M1 y G1 H1 hb e1 g1 w1 yb => hb σ G1 H1 _ (en.up g1.gg) w1 fun a M2 x G2 H2 ha e2 g2 w2 xa => by
    obtain ⟨p, kvs, k, rfl, rfl, hm, pd⟩ := ha
    obtain rfl : x = .ref p := xa
    cases yb
    obtain ⟨vs, hx, hr⟩ := w2.mh _ hm
    refine ⟨p, valV vs (.inl k), rfl, .inl ⟨vs, .inl k, .inl hx, rfl, rfl⟩, ?_⟩
    have : (valV vs (.inl k)).isSome = (valD kvs (.inl k)).isSome := by
      rcases kr_val (k := .inl k) hr with ⟨a, c⟩ | ⟨v, d2, e, c, r⟩
      · rw [a, c]; rfl
      · rw [e, c]; rfl
    rw [this]
    exact q _ _ _ _ _ pd (e2.trans e1) (g1.trans (by rw [e1] at g2; exact g2)) w2 (.bl _)
/-- d[k] = v -/
theorem sj_dput {D0 : List Addr} {W : DE} {td ty tv : TE} (h : Ev K tv es M fun c M1 => Ev K td es M1 fun a M2 => Ev K ty es M2 fun b M3 => ∃ Ma Mb p kvs k d, a = .ref p ∧ b = .dat (.int k) ∧ c = .dat d ∧ M3 = Ma ++ (p, MO.dct kvs) :: Mb ∧ kvs.length ≤ 100000 ∧ W.nx es (Ma ++ (p, MO.dct (putD kvs (.inl k) d)) :: Mb)) : Sj K D0 (sDPut td ty tv) es M W := by
  intro G0 H0 σ H D ⟨G, f, en⟩ l
  refine h σ G H _ en f.wf fun c M1 z G1 H1 p1 d1 g1 w1 zc => ?_
  have f1 := f.step g1 w1 d1
  refine p1 σ G1 H1 _ (en.up g1.gg) w1 fun a M2 x G2 H2 p2 d2 g2 w2 xa => ?_
  have f2 := f1.step g2 w2 d2
  refine p2 σ G2 H2 _ ((en.up g1.gg).up g2.gg) w2 fun b M3 y G3 H3 p3 d3 g3 w3 yb => ?_
  have f3 := f2.step g3 w3 d3
  obtain ⟨Ma, Mb, p, kvs, k, d, rfl, rfl, rfl, rfl, hl, n⟩ := p3
  obtain rfl : x = .ref p := xa
  cases yb
  obtain ⟨vs, hx, hr⟩ := w3.mh (p, .dct kvs) (by simp)
  have zd := dpUp g3.gg _ _ (dpUp g2.gg _ _ zc)
  have u := w3.chgD (kr_put (k := .inl k) hr zd)
  refine ⟨p, _, rfl, .inl ⟨vs, .inl k, hx, rfl, by rw [kr_len hr]; exact Nat.lt_of_le_of_lt hl (by decide), rfl⟩, ?_⟩
  have f4 := f3.step u.2 u.1 (by simp [dom])
  exact l.nx _ _ _ _ n ⟨G3, f4, ((en.up g1.gg).up g2.gg).up g3.gg⟩
/-- a, b = x, {0: None}, the second of which may change -/
theorem sj_parD0 {D0 : List Addr} {W : DE} {i j : Nat} {ta : TE} (h : Ev K ta es M fun a M1 => ∀ p, p ∉ D0 → W.nx ((es.set i a).set j (.ref p)) (M1 ++ [(p, .dct [(.inl 0, .none)])])) :
    Sj K D0 (tPar i j (tCons ta (tCons (tDisp [(tC (.int 0), tC .non)]) tNil))) es M W := by
  intro G0 H0 σ H D ⟨G, f, en⟩ l
  have q : ∀ (a b : V) (R : V → V → Prop), (∃ v w, [a, b] = [v, w] ∧ R v w) = R a b := fun a b R => propext ⟨fun ⟨v, w, e, r⟩ => by cases e; exact r, fun r => ⟨a, b, rfl, r⟩⟩
  simp only [tPar, tCons, tNil, tDisp, tPairs, tC, q]
  refine h σ G H _ en f.wf fun a M1 x G1 H1 p d g w xa => ?_
  have f1 := f.step g w d
  intro r hr
  refine ⟨upd_same, [(.inl 0, .non)], rfl, by decide, ?_⟩
  rw [upd_upd, show mergeK [] [((Sum.inl 0 : Key), V.non)] = [(Sum.inl 0, V.non)] from rfl]
  have u := w.newD (vs := [(Sum.inl 0, V.non)]) (kvs := [(Sum.inl 0, PyData.none)]) hr (.cons ⟨rfl, .non⟩ .nil)
  refine l.nx _ _ _ _ (p r fun hb => f1.gr.al r (f1.bs r hb) hr) ⟨G1, ⟨f1.gr.transN u.2 f1.own, u.1, fun a ha => ?_, f1.bs⟩, ((en.up g.gg).put xa i).put (e := .ref r) rfl j⟩
  unfold dom at ha
  rw [List.map_append] at ha
  rcases List.mem_append.mp ha with t | t
  · exact f1.own a t
  · have : a = r := by simpa using t
    subst this
    cases z0 : H0 a with
    | none => exact .inr rfl
    | some o => exact absurd hr (f1.gr.al a (by rw [z0]; exact fun x => nomatch x))
end
/-! ### isqrt -/
/-! ### x or y, x None or an int -/
def tOrG (ta tb : TE) : TE := fun σ H Q => ta σ H fun x H1 => (x = .non ∧ tb σ H1 Q) ∨ ∃ i, x = .int i ∧ (i ≠ 0 → Q x H1) ∧ (i = 0 → tb σ H1 Q)
theorem pe_orG {X : Cx} {a b : Expr} {rest : List Expr} {pos : Pos} {ta tb : TE} (ha : PE X a ta) (hb : PE X (.BoolOp .Or (b :: rest) pos) tb) : PE X (.BoolOp .Or (a :: b :: rest) pos) (tOrG ta tb) := by
  refine ⟨fun pins s σ H Q I h => ?_⟩
  refine BoolOp_or (thn (ha.run pins s σ H _ I h) fun v s1 ⟨x, H1, I1, r1, q1⟩ => ?_)
  rcases q1 with ⟨rfl, q1⟩ | ⟨i, rfl, q1, q2⟩
  · cases r1
    exact truthy_none (hb.run pins s1 σ H1 Q I1 q1)
  · obtain ⟨t, rfl⟩ := r1
    refine PySem.P.truthy_int ?_
    by_cases c : i = 0
    · subst c
      exact hb.run pins s1 σ H1 Q I1 (q2 rfl)
    · rw [if_pos (by simpa using c)]
      exact ⟨.int i, H1, I1, ⟨t, rfl⟩, q1 c⟩
section
variable {K : PySem.W.Frag} {M : MM} {P : Ent → MM → Prop} {es : List Ent}
theorem ev_orG {ta tb : TE} (h : Ev K ta es M fun a M1 => (a = .dat .none ∧ Ev K tb es M1 P) ∨ ∃ i : Int, a = .dat (.int i) ∧ (i ≠ 0 → P a M1) ∧ (i = 0 → Ev K tb es M1 P)) : Ev K (tOrG ta tb) es M P := fun σ G H Q en w q =>
  h σ G H _ en w fun a M1 x G1 H1 ha e1 g1 w1 xa => by
    rcases ha with ⟨rfl, hb⟩ | ⟨i, rfl, h1, h2⟩
    · cases xa
      exact .inl ⟨rfl, hb σ G1 H1 Q (en.up g1.gg) w1 (q.go e1 g1)⟩
    · cases xa
      exact .inr ⟨i, rfl, fun c => q _ _ _ _ _ (h1 c) e1 g1 w1 (.int i), fun c => h2 c σ G1 H1 Q (en.up g1.gg) w1 (q.go e1 g1)⟩
end
end Yw

set_option Elab.async false
set_option linter.all false
set_option maxRecDepth 100000
set_option maxHeartbeats 1000000
/-! Own layer: a, b, *c = a list. -/
namespace Yw
open PySem PySem.Spec PyProof.Rows L2
section
variable {prog : Program} {w : World} {A : Around} {E : Value → Shared → Prop} {s : Shared}
end
section
variable {K : PySem.W.Frag} {M Mb : MM} {P : List Ent → MM → Prop} {es : List Ent}
end
section
variable {K : PySem.W.Frag} {M Mb : MM} {P : Ent → MM → Prop} {es : List Ent}
end
end Yw

set_option Elab.async false
set_option linter.all false
set_option maxRecDepth 100000
set_option maxHeartbeats 1000000
/-! Own layer: the greatest strain of all led rows is that of one leap over the turn. -/
namespace Yw
open PySem PySem.Spec PyProof.Rows L2
/-! ### phi -/
def phN (D S : Int × Int) (t : Int) : Int := 4 * S.1 * D.2 + D.1 * S.2 * t * (t - 1)
def phD (D S : Int × Int) (t : Int) : Int := D.2 * S.2 * t
def qphi (D S : Int × Int) (t : Int) : Int × Int := (redN (phN D S t) (phD D S t), redD (phN D S t) (phD D S t))
theorem leq_refl (p : Int × Int) : leq p p := by unfold leq; omega
/-- falls to T, then rises -/
structure Uni (f : Int → Int × Int) (T : Int) : Prop where
  pos : ∀ t, 1 ≤ t → 0 < (f t).2
  dec : ∀ s t, 1 ≤ s → s ≤ t → t ≤ T → leq (f t) (f s)
  inc : ∀ s t, T ≤ s → s ≤ t → leq (f s) (f t)
  t1 : 1 ≤ T
def minq (p q : Int × Int) : Int × Int := if leq p q then p else q
theorem minq_l {p q : Int × Int} : leq (minq p q) p := by
  unfold minq
  split
  · exact leq_refl p
  · rename_i h
    exact (leq_total p q).resolve_left h
theorem minq_r {p q : Int × Int} : leq (minq p q) q := by
  unfold minq
  split
  · rename_i h; exact h
  · exact leq_refl q
theorem minq_or (p q : Int × Int) : minq p q = p ∨ minq p q = q := by
  unfold minq
  split
  · exact .inl rfl
  · exact .inr rfl
theorem minq_ge {p q r : Int × Int} (h : leq r p) (g : leq r q) : leq r (minq p q) := by
  rcases minq_or p q with e | e <;> rw [e] <;> assumption
def Reach (lo most : Nat) (u : Int) : Prop := ∃ k : Nat, ((k * lo : Nat) : Int) ≤ u ∧ u ≤ ((k * most : Nat) : Int)
theorem Reach.zero (lo most : Nat) : Reach lo most 0 := ⟨0, by simp, by simp⟩
theorem Reach.nn {lo most : Nat} {u : Int} (h : Reach lo most u) : 0 ≤ u := by
  obtain ⟨k, h1, _⟩ := h
  have : (0 : Int) ≤ ((k * lo : Nat) : Int) := Int.natCast_nonneg _
  omega
theorem Reach.add {lo most : Nat} {u : Int} (h : Reach lo most u) {r : Int} (h1 : (lo : Int) ≤ r) (h2 : r ≤ most) : Reach lo most (u + r) := by
  obtain ⟨k, g1, g2⟩ := h
  refine ⟨k + 1, ?_, ?_⟩
  · rw [Nat.add_mul, Nat.one_mul]; omega
  · rw [Nat.add_mul, Nat.one_mul]; omega
theorem Reach.mul {lo most : Nat} (h : lo ≤ most) {u : Int} (hu : Reach lo most u) : ∀ j : Nat, Reach lo most (u + (j * most : Nat))
  | 0 => by simpa using hu
  | j + 1 => by
    have := (Reach.mul h hu j).add (r := (most : Int)) (by omega) (Int.le_refl _)
    rw [Nat.add_mul, Nat.one_mul]
    have e : u + ((j * most + most : Nat) : Int) = u + ((j * most : Nat) : Int) + (most : Int) := by omega
    rw [e]
    exact this
theorem Reach.step {lo most : Nat} {u : Int} (h : Reach lo most u) (hl : lo ≤ most) (h0 : 1 ≤ u) : ∃ r : Int, (lo : Int) ≤ r ∧ r ≤ most ∧ r ≤ u ∧ Reach lo most (u - r) := by
  obtain ⟨k, g1, g2⟩ := h
  cases k with
  | zero => simp at g1 g2; omega
  | succ k =>
    rw [Nat.add_mul, Nat.one_mul] at g1 g2
    have ab : k * lo ≤ k * most := Nat.mul_le_mul_left k hl
    by_cases c : u ≤ ((k * most : Nat) : Int) + lo
    · refine ⟨lo, Int.le_refl _, by omega, by omega, k, by omega, by omega⟩
    · refine ⟨u - ((k * most : Nat) : Int), by omega, by omega, by omega, k, by omega, by omega⟩
theorem reach_div {lo most : Nat} (hl : lo ≤ most) (hm : 1 ≤ most) {u : Int} (h0 : 0 ≤ u) : Reach lo most u ↔ -((-u) / (most : Int)) * (lo : Int) ≤ u := by
  have f0 : 0 ≤ -((-u) / (most : Int)) := by
    have : (-u) / (most : Int) ≤ 0 := Int.ediv_nonpos_of_nonpos_of_neg (by omega) (by omega)
    omega
  have key : ∀ k : Nat, u ≤ ((k * most : Nat) : Int) → -((-u) / (most : Int)) ≤ k := fun k h => by
    have : -(k : Int) ≤ (-u) / (most : Int) := by
      refine Int.le_ediv_of_mul_le (by omega) ?_
      rw [Int.neg_mul]
      rw [Int.natCast_mul] at h
      omega
    omega
  have up : u ≤ -((-u) / (most : Int)) * (most : Int) := by
    have := Int.ediv_mul_le (-u) (show (most : Int) ≠ 0 by omega)
    rw [Int.neg_mul]
    omega
  constructor
  · rintro ⟨k, g1, g2⟩
    have := Int.mul_le_mul_of_nonneg_right (key k g2) (show (0 : Int) ≤ lo by omega)
    rw [Int.natCast_mul] at g1
    omega
  · intro h
    obtain ⟨n, hn⟩ : ∃ n : Nat, -((-u) / (most : Int)) = (n : Int) := ⟨(-((-u) / (most : Int))).toNat, by omega⟩
    rw [hn] at h up
    exact ⟨n, by rw [Int.natCast_mul]; exact h, by rw [Int.natCast_mul]; exact up⟩
/-- what a leap over the turn bears -/
def IsLeap (f : Int → Int × Int) (lo most le : Nat) (T : Int) (q : Int × Int) : Prop :=
  (((le * most : Nat) : Int) ≤ T ∧ q = f ((le * most : Nat) : Int)) ∨ (T < (most : Int) ∧ q = f (most : Int)) ∨ ∃ u : Int, 1 ≤ u ∧ T < u + most ∧ u ≤ T ∧ Reach lo most u ∧ q = minq (f u) (f (u + most))
def IsPull (f : Int → Int × Int) (lo most le : Nat) (T : Int) (q : Int × Int) : Prop := IsLeap f lo most le T q ∧ ∀ p, IsLeap f lo most le T p → leq p q
def Low (f : Int → Int × Int) (lo most le : Nat) (T : Int) (q : Int × Int) : Prop := ∃ p, IsLeap f lo most le T p ∧ leq q p
section
variable {f : Int → Int × Int} {lo most le : Nat} {T : Int}
theorem leap_pos (h : Uni f T) (hm : 1 ≤ most) (hl : 1 ≤ le) {q : Int × Int} (hq : IsLeap f lo most le T q) : 0 < q.2 := by
  rcases hq with ⟨_, rfl⟩ | ⟨_, rfl⟩ | ⟨u, h1, _, _, _, rfl⟩
  · exact h.pos _ (by have := Nat.mul_pos hl hm; omega)
  · exact h.pos _ (by omega)
  · rcases minq_or (f u) (f (u + most)) with e | e <;> rw [e]
    · exact h.pos _ h1
    · exact h.pos _ (by omega)
/-- a row that goes over the turn between a and b -/
theorem low_cross (h : Uni f T) (hm : 1 ≤ most) {a b : Int} {q : Int × Int} (q0 : 0 < q.2) (ra : Reach lo most a) (ha : a ≤ T) (hb : T < b) (hab : b ≤ a + most) (g1 : 1 ≤ a → leq q (f a)) (g2 : leq q (f b)) : Low f lo most le T q := by
  have a0 := ra.nn
  have t1 := h.t1
  by_cases c : a = 0
  · subst c
    exact ⟨f most, .inr (.inl ⟨by omega, rfl⟩), leq_trans q0 (h.pos b (by omega)) (h.pos _ (by omega)) g2 (h.inc b most (by omega) (by omega))⟩
  · refine ⟨minq (f a) (f (a + most)), .inr (.inr ⟨a, by omega, by omega, ha, ra, rfl⟩), minq_ge (g1 (by omega)) ?_⟩
    exact leq_trans q0 (h.pos b (by omega)) (h.pos _ (by omega)) g2 (h.inc b _ (by omega) hab)
/-- the lead behind c cells -/
theorem low_lead (h : Uni f T) (hlm : lo ≤ most) (hm : 1 ≤ most) (hl : 1 ≤ le) {c : Int} {q : Int × Int} (q0 : 0 < q.2) (rc : Reach lo most c) (hc : c ≤ T) (g1 : 1 ≤ c → leq q (f c)) (g2 : ∀ j : Nat, 1 ≤ j → j ≤ le → leq q (f (c + (j * most : Nat)))) : Low f lo most le T q := by
  have c0 := rc.nn
  by_cases e : c + (le * most : Nat) ≤ T
  · have p1 : 1 ≤ le * most := Nat.mul_pos hl hm
    exact ⟨_, .inl ⟨by omega, rfl⟩, leq_trans q0 (h.pos _ (by omega)) (h.pos _ (by omega)) (g2 le hl (Nat.le_refl le)) (h.dec _ _ (by omega) (by omega) e)⟩
  · have : ∃ j : Nat, j < le ∧ c + (j * most : Nat) ≤ T ∧ T < c + ((j + 1) * most : Nat) := by
      clear g1 g2 rc
      induction le with
      | zero => omega
      | succ n ih =>
        by_cases e2 : c + (n * most : Nat) ≤ T
        · exact ⟨n, by omega, e2, by omega⟩
        · by_cases n0 : n = 0
          · subst n0
            simp at e2
            omega
          · obtain ⟨j, h1, h2, h3⟩ := ih (by omega) e2
            exact ⟨j, by omega, h2, h3⟩
    obtain ⟨j, h1, h2, h3⟩ := this
    refine low_cross h hm (a := c + (j * most : Nat)) (b := c + ((j + 1) * most : Nat)) q0 (Reach.mul hlm rc j) h2 h3 ?_ (fun ha => ?_) (g2 (j + 1) (by omega) (by omega))
    · rw [Nat.add_mul, Nat.one_mul]; omega
    · by_cases j0 : j = 0
      · subst j0
        simp at ha ⊢
        exact g1 ha
      · exact g2 j (by omega) (by omega)
/-- a leap is at most each distance of its row -/
theorem leap_le (h : Uni f T) (hm : 1 ≤ most) {u : Int} (h1 : 1 ≤ u) (h2 : T < u + most) (h3 : u ≤ T) (j : Nat) (hj : 1 ≤ j) : leq (minq (f u) (f (u + most))) (f (u + (j * most : Nat))) := by
  have p : most ≤ j * most := Nat.le_mul_of_pos_left most hj
  have q0 : 0 < (minq (f u) (f (u + most))).2 := by
    rcases minq_or (f u) (f (u + most)) with e | e <;> rw [e]
    · exact h.pos _ h1
    · exact h.pos _ (by omega)
  exact leq_trans q0 (h.pos _ (by omega)) (h.pos _ (by omega)) minq_r (h.inc _ _ (by omega) (by omega))
theorem most_le (h : Uni f T) (hm : 1 ≤ most) (ht : T < most) (j : Nat) (hj : 1 ≤ j) : leq (f most) (f ((j * most : Nat))) := by
  have p : most ≤ j * most := Nat.le_mul_of_pos_left most hj
  exact h.inc _ _ (by omega) (by omega)
theorem lead_le (h : Uni f T) (hm : 1 ≤ most) (ht : ((le * most : Nat) : Int) ≤ T) (j : Nat) (hj : 1 ≤ j) (hle : j ≤ le) : leq (f ((le * most : Nat))) (f ((j * most : Nat))) := by
  have p : j * most ≤ le * most := Nat.mul_le_mul_right most hle
  have p1 : 1 ≤ j * most := Nat.mul_pos hj hm
  exact h.dec _ _ (by omega) (by omega) ht
end
/-! ### phi falls to its turn -/
def IsTurnT (D S : Int × Int) (T : Int) : Prop := 1 ≤ T ∧ 4 * S.1 * D.2 ≤ D.1 * S.2 * T * (T + 1) ∧ (1 < T → D.1 * S.2 * T * (T - 1) < 4 * S.1 * D.2)
theorem red_leq {n d m e : Int} (hd : 0 < d) (he : 0 < e) : leq (redN n d, redD n d) (redN m e, redD m e) ↔ n * e ≤ m * d := by
  have d1 := redD_pos (n := n) (show d ≠ 0 by omega)
  have d2 := redD_pos (n := m) (show e ≠ 0 by omega)
  have a1 := redN_mul n d
  have a2 := redD_mul n d
  have b1 := redN_mul m e
  have b2 := redD_mul m e
  have g0 : 0 < sg n d := by
    rcases Int.lt_or_le 0 (sg n d) with h | h
    · exact h
    · have := Int.mul_nonpos_of_nonneg_of_nonpos (show 0 ≤ redD n d by omega) h
      omega
  have h0 : 0 < sg m e := by
    rcases Int.lt_or_le 0 (sg m e) with h | h
    · exact h
    · have := Int.mul_nonpos_of_nonneg_of_nonpos (show 0 ≤ redD m e by omega) h
      omega
  show redN n d * redD m e ≤ redN m e * redD n d ↔ _
  generalize redN n d = x at *
  generalize redD n d = y at *
  generalize redN m e = u at *
  generalize redD m e = v at *
  generalize sg n d = g at *
  generalize sg m e = h at *
  subst a1 a2 b1 b2
  have p := Int.mul_pos g0 h0
  rw [show x * g * (v * h) = x * v * (g * h) by grind, show u * h * (y * g) = u * y * (g * h) by grind]
  exact ⟨fun z => Int.mul_le_mul_of_nonneg_right z (by omega), fun z => Int.le_of_mul_le_mul_right z p⟩
theorem qphi_leq {D S : Int × Int} (hD : 0 < D.2) (hS : 0 < S.2) {s t : Int} (hs : 1 ≤ s) (ht : 1 ≤ t) (hst : s < t) : leq (qphi D S s) (qphi D S t) ↔ 4 * S.1 * D.2 ≤ D.1 * S.2 * (s * t) := by
  have E0 : 0 < D.2 * S.2 := Int.mul_pos hD hS
  have p1 : 0 < phD D S s := Int.mul_pos E0 (by omega)
  have p2 : 0 < phD D S t := Int.mul_pos E0 (by omega)
  unfold qphi
  rw [red_leq p1 p2]
  have e : phN D S t * phD D S s - phN D S s * phD D S t = (D.2 * S.2 * (t - s)) * (D.1 * S.2 * (s * t) - 4 * S.1 * D.2) := by
    unfold phN phD
    grind
  have c0 : 0 < D.2 * S.2 * (t - s) := Int.mul_pos E0 (by omega)
  constructor
  · intro h
    have h2 : 0 ≤ (D.2 * S.2 * (t - s)) * (D.1 * S.2 * (s * t) - 4 * S.1 * D.2) := by omega
    rcases Int.lt_or_le (D.1 * S.2 * (s * t) - 4 * S.1 * D.2) 0 with z | z
    · have := Int.mul_neg_of_pos_of_neg c0 z
      omega
    · omega
  · intro h
    have h2 := Int.mul_nonneg (Int.le_of_lt c0) (show 0 ≤ D.1 * S.2 * (s * t) - 4 * S.1 * D.2 by omega)
    omega
theorem qphi_pos {D S : Int × Int} (hD : 0 < D.2) (hS : 0 < S.2) {t : Int} (ht : 1 ≤ t) : 0 < (qphi D S t).2 := by
  have p1 : 0 < phD D S t := Int.mul_pos (Int.mul_pos hD hS) (by omega)
  exact redD_pos (by omega)
theorem qphi_uni {D S : Int × Int} (hD : 0 < D.2) (hS : 0 < S.2) (d0 : 0 ≤ D.1) {T : Int} (h : IsTurnT D S T) : Uni (qphi D S) T := by
  obtain ⟨t1, h1, h2⟩ := h
  have B0 : 0 ≤ D.1 * S.2 := Int.mul_nonneg d0 (by omega)
  rw [Int.mul_assoc (D.1 * S.2)] at h1 h2
  refine ⟨fun t ht => qphi_pos hD hS ht, fun s t hs hst htT => ?_, fun s t hs hst => ?_, t1⟩
  · by_cases c : s = t
    · subst c; exact leq_refl _
    · refine (leq_total (qphi D S s) (qphi D S t)).elim (fun z => ?_) id
      have a := (qphi_leq hD hS (by omega) (by omega) (by omega)).mp z
      have b := h2 (by omega)
      have m1 : s * t ≤ T * (T - 1) := by
        have x1 := Int.mul_le_mul_of_nonneg_right (show s ≤ T - 1 by omega) (show 0 ≤ t by omega)
        have x2 := Int.mul_le_mul_of_nonneg_left htT (show 0 ≤ T - 1 by omega)
        rw [Int.mul_comm T]
        omega
      have := Int.mul_le_mul_of_nonneg_left m1 B0
      omega
  · by_cases c : s = t
    · subst c; exact leq_refl _
    · refine (qphi_leq hD hS (by omega) (by omega) (by omega)).mpr ?_
      have m1 : T * (T + 1) ≤ s * t := by
        have x1 := Int.mul_le_mul_of_nonneg_right hs (show 0 ≤ T + 1 by omega)
        have x2 := Int.mul_le_mul_of_nonneg_left (show T + 1 ≤ t by omega) (show 0 ≤ s by omega)
        omega
      have := Int.mul_le_mul_of_nonneg_left m1 B0
      omega
theorem turn_one {D S : Int × Int} (d0 : 0 ≤ D.1) (s2 : 0 < S.2) {T U : Int} (h : IsTurnT D S T) (g : IsTurnT D S U) : T = U := by
  have B0 : 0 ≤ D.1 * S.2 := Int.mul_nonneg d0 (by omega)
  have key : ∀ {T U : Int}, IsTurnT D S T → IsTurnT D S U → ¬ T < U := fun {T U} h g c => by
    obtain ⟨t1, h1, _⟩ := h
    obtain ⟨u1, _, g2⟩ := g
    have g2 := g2 (by omega)
    rw [Int.mul_assoc (D.1 * S.2)] at h1 g2
    have m1 : T * (T + 1) ≤ U * (U - 1) := by
      have x1 := Int.mul_le_mul_of_nonneg_right (show T ≤ U - 1 by omega) (show 0 ≤ T + 1 by omega)
      have x2 := Int.mul_le_mul_of_nonneg_left (show T + 1 ≤ U by omega) (show 0 ≤ U - 1 by omega)
      rw [Int.mul_comm U]
      omega
    have := Int.mul_le_mul_of_nonneg_left m1 B0
    omega
  have a := key h g
  have b := key g h
  omega
theorem reach_law {lo most : Nat} (h1 : 1 ≤ lo) (hl : lo ≤ most) {u : Int} (h0 : 0 ≤ u) : Reach lo most u ↔ (u + (most : Int) - 1) / (most : Int) ≤ u / (lo : Int) := by
  rw [reach_div hl (by omega) h0, Int.le_ediv_iff_mul_le (by omega)]
  have e : (u + (most : Int) - 1) / (most : Int) = -((-u) / (most : Int)) := by
    have m0 : (0 : Int) < most := by omega
    have a1 := Int.emod_add_mul_ediv (-u) most
    have a2 := Int.emod_nonneg (-u) (show (most : Int) ≠ 0 by omega)
    have a3 := Int.emod_lt_of_pos (-u) m0
    generalize (-u) / (most : Int) = w at *
    generalize (-u) % (most : Int) = r at *
    have : u + (most : Int) - 1 = (most - 1 - r) + most * (-w) := by
      rw [Int.mul_neg]
      omega
    rw [this, Int.add_mul_ediv_left _ _ (by omega), Int.ediv_eq_zero_of_lt (by omega) (by omega)]
    omega
  rw [e]
theorem minq_is {k : Nat} {p q r : Int × Int} (hp : FqQ k p) (hq : FqQ k q) (h : r = p ∨ r = q) (a : leq r p) (b : leq r q) : r = minq p q := by
  unfold minq
  split
  · rename_i c
    rcases h with rfl | rfl
    · rfl
    · exact leq_same hq hp a c
  · rename_i c
    rcases h with rfl | rfl
    · exact absurd b c
    · rfl
theorem minq_fq {k : Nat} {p q : Int × Int} (hp : FqQ k p) (hq : FqQ k q) : FqQ k (minq p q) := by
  rcases minq_or p q with e | e <;> rw [e] <;> assumption
theorem reach_mul {lo most : Nat} (hl : lo ≤ most) (j : Nat) : Reach lo most ((j * most : Nat) : Int) := ⟨j, by have := Nat.mul_le_mul_left j hl; omega, Int.le_refl _⟩
/-- there is a leap in the window -/
theorem reach_in {lo most : Nat} (hl : lo ≤ most) (hm : 1 ≤ most) {T : Int} (h : (most : Int) ≤ T) : ∃ u : Int, 1 ≤ u ∧ T < u + most ∧ u ≤ T ∧ Reach lo most u := by
  refine ⟨((T.toNat / most * most : Nat) : Int), ?_, ?_, ?_, reach_mul hl _⟩
  · have : 1 ≤ T.toNat / most := (Nat.one_le_div_iff (by omega)).mpr (by omega)
    have := Nat.mul_pos this hm
    omega
  · have := Nat.lt_div_mul_add (a := T.toNat) hm
    omega
  · have := Nat.div_mul_le_self T.toNat most
    omega
/-! ### a name gets one of two new lists that may change -/
end Yw

set_option Elab.async false
set_option linter.all false
set_option maxRecDepth 100000
set_option maxHeartbeats 1000000
/-! Own layer: what a fraction stands for; PULL falls as the lead grows. -/
namespace Yw
open PySem PySem.Spec PyProof.Rows L2
/-- q is n by d -/
def Rep (q : Int × Int) (n d : Int) : Prop := 0 < d ∧ q = (redN n d, redD n d)
section
variable {p q : Int × Int} {a b c d : Int}
theorem Rep.self (h : Fr q.1 q.2) : Rep q q.1 q.2 := ⟨h.1, by rw [(red_same h).1, (red_same h).2]⟩
theorem Rep.fr (h : Rep q a b) : Fr q.1 q.2 := by
  rw [h.2]
  exact red_fr (by have := h.1; omega)
theorem Rep.cross (h : Rep q a b) : q.1 * b = a * q.2 := by
  rw [h.2]
  exact red_eq a b
theorem Rep.of (hd : 0 < d) (h : Fr q.1 q.2) (e : q.1 * d = c * q.2) : Rep q c d := by
  obtain ⟨x, y⟩ := red_uniq h (show d ≠ 0 by omega) e
  exact ⟨hd, Prod.ext x y⟩
theorem Rep.add (h : Rep p a b) (g : Rep q c d) : Rep (redN (p.1 * q.2 + q.1 * p.2) (p.2 * q.2), redD (p.1 * q.2 + q.1 * p.2) (p.2 * q.2)) (a * d + c * b) (b * d) := by
  have h1 := h.cross
  have g1 := g.cross
  have hp := Int.mul_pos h.1 g.1
  have fp := Int.mul_pos h.fr.1 g.fr.1
  refine Rep.of hp (red_fr (by omega)) ?_
  have := red_eq (p.1 * q.2 + q.1 * p.2) (p.2 * q.2)
  have e : (p.1 * q.2 + q.1 * p.2) * (b * d) = (a * d + c * b) * (p.2 * q.2) := by grind
  show redN _ _ * (b * d) = (a * d + c * b) * redD _ _
  generalize redN (p.1 * q.2 + q.1 * p.2) (p.2 * q.2) = x at *
  generalize redD (p.1 * q.2 + q.1 * p.2) (p.2 * q.2) = y at *
  generalize p.1 * q.2 + q.1 * p.2 = N at *
  generalize p.2 * q.2 = M at *
  refine Int.eq_of_mul_eq_mul_right (show M ≠ 0 by omega) ?_
  grind
theorem Rep.many (h : Rep p a b) (m : Int) : Rep (redN (p.1 * m) p.2, redD (p.1 * m) p.2) (a * m) b := by
  have h1 := h.cross
  have fp := h.fr.1
  refine Rep.of h.1 (red_fr (by omega)) ?_
  have := red_eq (p.1 * m) p.2
  show redN _ _ * b = (a * m) * redD _ _
  generalize redN (p.1 * m) p.2 = x at *
  generalize redD (p.1 * m) p.2 = y at *
  refine Int.eq_of_mul_eq_mul_right (show p.2 ≠ 0 by omega) ?_
  grind
theorem Rep.floor (h : Rep q a b) : q.1 / q.2 = a / b := by
  have h1 := h.cross
  have h2 := h.1
  have h3 := h.fr.1
  have k : ∀ {x y u v : Int}, 0 < y → 0 < v → x * v = u * y → x / y ≤ u / v := fun {x y u v} hy hv e => by
    refine Int.le_ediv_of_mul_le hv ?_
    have := Int.ediv_mul_le x (show y ≠ 0 by omega)
    refine Int.le_of_mul_le_mul_right (a := y) ?_ hy
    have z := Int.mul_le_mul_of_nonneg_right this (show 0 ≤ v by omega)
    have e2 : x / y * v * y = x / y * y * v := by grind
    rw [e2, ← e]
    exact z
  exact Int.le_antisymm (k h3 h2 h1) (k h2 h3 h1.symm)
end
/-! ### there is a turn -/
/-! ### PULL falls as the lead grows -/
end Yw

set_option Elab.async false
set_option linter.all false
set_option maxRecDepth 100000
set_option maxHeartbeats 1000000
/-! Own layer: a def handed to a def as its last argument. -/
namespace Yw
open PySem PySem.Spec PyProof.Rows L2
section
variable {K : PySem.W.Frag} {M : MM} {P : Ent → MM → Prop} {R : RR} {es as : List Ent} {ds : List PyData} {f0 : Addr}
end
section
variable {P : Program} {w : World} {K : PySem.W.Frag} {mg : Str → Option Value} {base : Heap} {x : Str} {st : Stmt} {N ps : List Str} {k : Nat} {R : RR} {f0 : Addr}
end
end Yw

set_option Elab.async false
set_option linter.all false
set_option maxRecDepth 100000
set_option maxHeartbeats 4000000
/-! Own layer: == and != within a comprehension; alike of any two data; str of an int; rows among data. -/
namespace Yw
open PySem PySem.Spec PyProof.Rows L2
theorem eqK {X : Cx} {K : PySem.W.Frag} (h : X.K = K) (hu : X.A.units + 64 < cLine) : OpR X (compareOp .Eq) (rEqD K) := by
  subst h
  exact op_eqD hu
/-! ### alike of any two -/
section
variable {K : PySem.W.Frag} {M : MM} {Q : Ent → MM → Prop} {d e : PyData}
end
/-! ### how long texts are -/
end Yw

set_option Elab.async false
set_option linter.all false
set_option maxRecDepth 100000
set_option maxHeartbeats 4000000
/-! Own layer: for over a list that may change, min of data (tuples), max with default=. -/
namespace Yw
open PySem PySem.Spec PyProof.Rows L2
open Sem (wp)
/-! ### for over a list that may change, but is left as it is -/
section
variable {K : PySem.W.Frag} {M : MM} {es : List Ent} {D0 : List Addr} {W : DE} {te : TE}
end
/-! ### min of what is compared over the heap that stood before -/
section
variable {prog : Program} {w : World} {A : Around} {R : Result → Shared → Prop} {I : Addr} {fp wr : List Addr} {n : Nat} {P : Nat → Value → Prop} {St : Nat → Heap → Prop} {h0 : Heap}
end
section
variable {prog : Program} {w : World} {A : Around} {E : Value → Shared → Prop} {s : Shared}
end
/-! ### the order of data -/
section
variable {K : PySem.W.Frag} {M : MM} {P : Ent → MM → Prop}
end
end Yw

set_option Elab.async false
set_option linter.all false
set_option maxRecDepth 100000
set_option maxHeartbeats 4000000
/-! Own layer: max(xs, default=n). -/
namespace Yw
open PySem PySem.Spec PyProof.Rows L2
open Sem (wp)
section
variable {prog : Program} {w : World} {A : Around} {R : Result → Shared → Prop} {I : Addr} {fp wr : List Addr} {n : Nat} {P : Nat → Value → Prop} {St : Nat → Heap → Prop}
end
section
variable {prog : Program} {w : World} {A : Around} {E : Value → Shared → Prop} {s : Shared} {Q : Value → Shared → Prop} {l : Addr} {xs : Array (Int × Tok)} {d : Value}
end
section
variable {K : PySem.W.Frag} {M : MM} {es : List Ent} {P : Ent → MM → Prop} {t tk : TA}
end
end Yw

set_option Elab.async false
set_option linter.all false
set_option maxRecDepth 100000
set_option maxHeartbeats 4000000
/-! Own layer: truth of a list that is data; membership among data. -/
namespace Yw
open PySem PySem.Spec PyProof.Rows L2
section
variable {K : PySem.W.Frag} {M : MM}
theorem o_inD {d : PyData} {ds : List PyData} {P : Ent → MM → Prop} (h1 : SeqAt.shaped d = true) (h2 : SeqAt.shaped (.list ds) = true) (p : P (.dat (.bool (ds.any fun z => PyData.eqv z d))) M) : Op2 K (rInD K) (.dat d) (.dat (.list ds)) M P := fun x y G H Q a b w r =>
  ⟨d, ds, rp_dp w.gh _ _ (SeqAt.canLay_of_shaped h1) a, rp_dp w.gh _ _ (SeqAt.canLay_of_shaped h2) b, h1, h2, r.val w p (.bl _)⟩
end
end Yw

set_option Elab.async false
set_option linter.all false
set_option maxRecDepth 100000
set_option maxHeartbeats 4000000
/-! Own layer: a lambda without parameters is handed to a def, which tries it; what the lambda calls lets an own error out. -/
namespace Yw
open PySem PySem.Spec PyProof.Rows L2
section
variable {K : PySem.W.Frag} {G H : Hp} {M Ma Mb : MM} {p c : Addr} {q : Str}
end
/-! ### a lambda is made -/
section
variable {X : Cx} {pins : List (Addr × Obj)} {σ : L2.St} {G H : Hp} {M : MM} {s : Shared} {c P : Addr} {params : Arguments} {body : Expr} {scope : Scope} {pos : Pos}
end
/-! ### the lambda is called -/
section
variable {X : Cx} {pins : List (Addr × Obj)} {σ : L2.St} {H : Hp} {s : Shared}
end
/-! ### x(lambda: body) -/
/-! ### a try whose first clause surely serves, whatever clauses follow -/
section
variable {X : Cx} {x n : Str} {c : Value} {i : Nat} {body suite : List Stmt} {b₀ : Stmt} {np pos pos1 : Pos} {tb : WX → TS} {ts : Addr → Value → Option Addr → TS} {more : List ExceptHandler}
end
/-! ### a def that tells whether what it got lets the error out, its field being n -/
end Yw

set_option Elab.async false
set_option linter.all false
set_option maxRecDepth 100000
set_option maxHeartbeats 4000000
/-! Own layer: a law whose def makes lambdas: its table of code objects is there from the start. -/
namespace Yw
open PySem PySem.Spec PyProof.Rows L2
section
variable {P : Program} {w : World} {K : PySem.W.Frag} {mg : Str → Option Value} {base : Heap}
end
/-! ### the law's own call -/
section
variable {P : Program} {w : World} {K : PySem.W.Frag} {mg mb : Str → Option Value} {k : Nat} {fa a c T : Addr} {fd : FuncData} {x : Str} {s : Shared} {vs : List Value} {ns : List Int}
end
end Yw

set_option Elab.async false
set_option linter.all false
set_option maxRecDepth 100000
set_option maxHeartbeats 4000000
/-! Own layer: data of any kind, empty dicts among them: repr, comparing with an empty row. -/
namespace Yw
open PySem PySem.Spec PyProof.Rows L2
/-! ### what such data are -/
/-! ### reading them -/
section
variable {X : Cx} {pins : List (Addr × Obj)} {σ : L2.St} {G H : Hp} {s : Shared}
end
/-! ### repr -/
section
variable {K : PySem.W.Frag} {M : MM} {P : Ent → MM → Prop}
end
/-! ### beside an empty row -/
section
variable {K : PySem.W.Frag} {M : MM} {P : Ent → MM → Prop}
end
/-! ### what values are -/
def intK : PyData → Bool
  | .int _ => true
  | .bool _ => true
  | _ => false
def bolK : PyData → Bool
  | .bool _ => true
  | _ => false
def tupK : PyData → Bool
  | .tuple _ => true
  | _ => false
def strK : PyData → Bool
  | .str _ => true
  | _ => false
section
variable {K : PySem.W.Frag} {M : MM} {Q : Ent → MM → Prop} {d : PyData}
theorem c_isiI (p : Q (.dat (.bool (intK d))) M) : Cb K (rIsi K) [.dat d, .ty "int"] M Q := c_isi (intK d) (by cases d <;> simp only [tyD, intK] <;> decide +kernel) p
theorem c_isiB (p : Q (.dat (.bool (bolK d))) M) : Cb K (rIsi K) [.dat d, .ty "bool"] M Q := c_isi (bolK d) (by cases d <;> simp only [tyD, bolK] <;> decide +kernel) p
theorem c_isiT (p : Q (.dat (.bool (tupK d))) M) : Cb K (rIsi K) [.dat d, .ty "tuple"] M Q := c_isi (tupK d) (by cases d <;> simp only [tyD, tupK] <;> decide +kernel) p
theorem c_isiS (p : Q (.dat (.bool (strK d))) M) : Cb K (rIsi K) [.dat d, .ty "str"] M Q := c_isi (strK d) (by cases d <;> simp only [tyD, strK] <;> decide +kernel) p
end
end Yw

set_option Elab.async false
set_option linter.all false
set_option maxRecDepth 100000
set_option maxHeartbeats 1000000
set_option exponentiation.threshold 20000
/-! Own layer: a tuple of ints of the module's own top; calls that may let an own error out, in a def that lets it out too; a lambda that hands three things on. -/
namespace Yw
open PySem PySem.Spec PyProof.Rows L2
section
variable {K : PySem.W.Frag} {M : MM} {P : Ent → MM → Prop} {es : List Ent}
end
section
variable {K : PySem.W.Frag} {M : MM} {P : Ent → MM → Prop} {es : List Ent} {C : Addr} {fld : Str} {R : RR} {RX : List PyData → PyData → Prop} {ta : TA} {E : XK} {x : PyData} {u r : TS}
end
end Yw

set_option Elab.async false
set_option linter.all false
set_option maxRecDepth 100000
set_option maxHeartbeats 1000000
set_option exponentiation.threshold 20000
/-! Own mathematics: steps by which two rides are drawn apart. -/
namespace Yw
/-! ### steps that stay near each other -/
/-! ### a swing; swings by turns; the steps that follow -/
def sw (most : Nat) (e : Int) : List Int := if most = 1 then [e] else (List.range most).map fun (k : Nat) => e * (2 * (k : Int) - most + 1)
def ahead (most : Nat) (e : Int) : Nat → List Int
  | 0 => []
  | n + 1 => sw most (if n % 2 = 0 then e else -e) ++ ahead most e n
/-! ### all steps -/
/-- what the steps are made of: T cells strained, nb RUNS of most ahead of these -/
structure Drawn (most nb T : Nat) (dr sh pn : Int) : Prop where
  m1 : 1 ≤ most
  t1 : 1 ≤ T
  d0 : 0 ≤ dr
  s0 : 0 ≤ sh
  hp : (T : Int) * pn = 4 * sh + dr * ((T : Int) * ((T : Int) - 1))
  low : -(dr * ((most : Int) - 1)) ≤ pn - 2 * dr * ((T : Int) - 1)
  hi : 1 ≤ nb → pn - 2 * dr * ((T : Int) - 1) ≤ dr * ((most : Int) + 1)
section
variable {most nb T : Nat} {dr sh pn : Int} (h : Drawn most nb T dr sh pn) (run : Nat)
include h
end
end Yw

set_option Elab.async false
set_option linter.all false
set_option maxRecDepth 100000
set_option maxHeartbeats 4000000
/-! Own layer: zip of a list and a tuple. -/
namespace Yw
open PySem PySem.Spec PyProof.Rows L2
/-- a list at a, a tuple at b, walked together -/
def Itn (K : PySem.W.Frag) (a b : Addr) : It :=
  ⟨fun i H => ∃ (xs ys : List V) (x y : V), SqL K H a xs ∧ SqT K H b ys ∧ xs[i]? = some x ∧ ys[i]? = some y,
   fun i H v H2 => ∃ T x y, v = .ref T ∧ H T = none ∧ H2 = upd H T (.tup [x, y]) ∧ (∀ xs, SqL K H a xs → xs[i]? = some x) ∧ (∀ ys, SqT K H b ys → ys[i]? = some y),
   fun i H => ∃ xs ys : List V, SqL K H a xs ∧ SqT K H b ys ∧ i ≤ xs.length ∧ i ≤ ys.length ∧ (i = xs.length ∨ i = ys.length)⟩
/-- how the five new objects stand at turn i -/
def ZstN (n a b : Nat) (i : Nat) (h : Heap) : Prop :=
  IsZip h (n + 4) (n + 2) (n + 3) .none ∧ IsPair h (n + 2) (.ref n) (.ref (n + 1)) ∧ (∃ x y, IsPair h (n + 3) x y) ∧ h.IsListIter n a i ∧ h.IsTupleIter (n + 1) b i
theorem turnN {P : Program} {w : World} {K : PySem.W.Frag} {elts : List Expr} {kk : Nat} {tpos : Pos} {n a b : Nat} (ha : a < n) (hb : b < n) :
    Turn P w K (.Tuple elts kk tpos) (Itn K a b) (M5 n) (n + 4) (ZstN n a b) where
  mem := by simp [M5]
  obj := fun i h ⟨z, t, ⟨x, y, o⟩, ⟨o1, e1, _, d1⟩, ⟨o2, e2, _, d2⟩⟩ c hc => by
    rcases m5 hc with q | q | q | q | q
    all_goals subst q
    · exact ⟨_, z, fun v q => nomatch q⟩
    · exact ⟨_, t, fun v q => nomatch q⟩
    · exact ⟨_, o, fun v q => nomatch q⟩
    · exact ⟨o1, e1, fun v q => by rw [d1] at q; cases q⟩
    · exact ⟨o2, e2, fun v q => by rw [d2] at q; cases q⟩
  keep := fun i h h2 ⟨z, t, ⟨x, y, o⟩, u1, u2⟩ k =>
    ⟨k _ (by simp [M5]) _ z, k _ (by simp [M5]) _ t, ⟨x, y, k _ (by simp [M5]) _ o⟩, u1.at fun q e => k _ (by simp [M5]) q e, u2.at fun q e => k _ (by simp [M5]) q e⟩
  item := by
    rintro X rfl rfl rfl hc i pins s σ H E I hf ⟨z, t, ⟨x0, y0, o⟩, u1, u2⟩ ⟨xs, ys, x, y, qx, qy, hx, hy⟩
    obtain ⟨as, r1, p1, _⟩ := I.list qx
    obtain ⟨bs, r2, p2, _⟩ := I.tuple qy
    obtain ⟨u, hu, ru⟩ := r1.get hx
    obtain ⟨v, hv, rv⟩ := r2.get hy
    have zl : n + 4 < s.heap.objs.size := Heap.lt_size z
    have hd := I.ok.hd hc
    have l1 : i < as.toArray.size := by simpa using (List.getElem?_eq_some_iff.mp hu).1
    have l2 : i < bs.toArray.size := by simpa using (List.getElem?_eq_some_iff.mp hv).1
    refine wpAny_pyNext_zipD2_item (apart5 ha hb) (Draws.list (A := X.A.in1) hd n a (Nat.ne_of_lt ha) as.toArray) (Draws.tuple (A := X.A.in1) hd (n + 1) b (Nat.ne_of_lt (Nat.lt_succ_of_lt hb)) bs.toArray) z t o ⟨u1, p1.isList⟩ ⟨u2, p2⟩ l1 l2 ?_
    intro x1 x2 h2 tk e1 e2 z2 o2 w1 w2 pr sz kp
    obtain rfl : u = x1 := by
      have e1 : as.toArray[i]? = some x1 := e1
      rw [show as.toArray[i]? = as[i]? by simp, hu] at e1
      exact Option.some.inj e1
    obtain rfl : v = x2 := by
      have e2 : bs.toArray[i]? = some x2 := e2
      rw [show bs.toArray[i]? = bs[i]? by simp, hv] at e2
      exact Option.some.inj e2
    refine ⟨_, rfl, wpAny_letOwnedTupleGo_zip (s := { s with heap := h2, toks := tk }) z2 fun h3 z3 same => ?_⟩
    have put : h3.get? s.heap.objs.size = some { cls := .type "tuple", data := .seq #[u, v] } := (same.2 _ (Nat.ne_of_gt zl)).trans pr
    have ob : ObjOk X.prog X.w (upd H s.heap.objs.size (.tup [x, y])) h3 s.heap.objs.size (.tup [x, y]) :=
      ⟨by show 2 ≤ sizeLine; decide, [u, v], .cons ru (.cons rv .nil), _, put, rfl, _, rfl⟩
    have J : Inv X pins σ (upd H s.heap.objs.size (.tup [x, y])) { s with heap := h3, toks := tk } :=
      I.turnedNew (ch := M5 n) (fun c q nc e => (same.2 c fun z => nc (by simp [M5, z])).trans
        (kp c q (fun z => nc (by simp [M5, z])) (fun z => nc (by simp [M5, z])) (fun z => nc (by simp [M5, z])) (fun z => nc (by simp [M5, z])) e)) hf (Nat.le_refl _) ob
    have sep := apart5 (n := n) ha hb
    refine ⟨.ref s.heap.objs.size, _, J, rfl, ⟨_, x, y, rfl, I.hok.fresh (Nat.le_refl _), rfl, fun l hl => by rw [I.list_inj hl qx]; exact hx, fun l hl => by rw [I.tuple_inj hl qy]; exact hy⟩, ⟨z3, ?_, ⟨u, v, ?_⟩, ?_, ?_⟩, fun c hcm => ?_⟩
    · exact (same.2 (n + 2) (by show ¬ @Eq Nat _ _; omega)).trans (kp (n + 2) _ (by show ¬ @Eq Nat _ _; omega) (by show ¬ @Eq Nat _ _; omega) (by show ¬ @Eq Nat _ _; omega) (by show ¬ @Eq Nat _ _; omega) t)
    · exact (same.2 (n + 3) (by show ¬ @Eq Nat _ _; omega)).trans o2
    · exact w1.1.at fun q e => (same.2 n (by show ¬ @Eq Nat _ _; omega)).trans e
    · exact w2.1.at fun q e => (same.2 (n + 1) (by show ¬ @Eq Nat _ _; omega)).trans e
    · have le : @LE.le Nat _ c (n + 4) := by rcases m5 hcm with q | q | q | q | q <;> (rw [q]; show @LE.le Nat _ _ _; omega)
      have lt : c < s.heap.objs.size := Nat.lt_of_le_of_lt le zl
      rw [upd_ne (Nat.ne_of_lt lt)]
      exact (hf c hcm).1
  done := by
    rintro X rfl rfl rfl hc i pins s σ H E I hf ⟨z, t, ⟨x0, y0, o⟩, u1, u2⟩ ⟨xs, ys, qx, qy, g1, g2, g3⟩
    obtain ⟨as, r1, p1, _⟩ := I.list qx
    obtain ⟨bs, r2, p2, _⟩ := I.tuple qy
    have hd := I.ok.hd hc
    have l1 := r1.length
    have l2 := r2.length
    refine wpAny_pyNext_zipD2_end (apart5 ha hb) (Draws.list (A := X.A.in1) hd n a (Nat.ne_of_lt ha) as.toArray) (Draws.tuple (A := X.A.in1) hd (n + 1) b (Nat.ne_of_lt (Nat.lt_succ_of_lt hb)) bs.toArray) z t o ⟨u1, p1.isList⟩ ⟨u2, p2⟩ (by simp; omega) (by simp; omega) (by simp; omega) ?_
    intro h2 tk kp
    exact ⟨rfl, I.turnedL (ch := M5 n) (fun c q nc e => kp c q (fun z => nc (by simp [M5, z])) (fun z => nc (by simp [M5, z])) (fun z => nc (by simp [M5, z])) (fun z => nc (by simp [M5, z])) e) hf⟩
  self := fun A i s Q E st h => wpAny_pyIter_zip st.1 h
def iZipN (K : PySem.W.Frag) (ta : TA) : TI := fun σ H R => ta σ H fun vs H1 => ∃ a b xs ys, vs = [.ref a, .ref b] ∧ SqL K H1 a xs ∧ SqT K H1 b ys ∧ R (Itn K a b) H1
theorem pi_zipN {X : Cx} {e e2 : Expr} {ta : TA} {p pos tpos : Pos} {elts : List Expr} {kk : Nat} (gl : Gl X "zip") (no : X.mg "zip" = none) (args : PA X [e, e2] ta)
    (s1 : starEach [e, e2] X.env = (false, eval e X.env) :: starEach [e2] X.env := by rfl) (s2 : (backTo pos (starEach [e2] X.env)).any (·.1) = false := by rfl) :
    PI X (.Tuple elts kk tpos) (.Call (.Name "zip" p) [e, e2] [] pos) (iZipN X.K ta) := by
  refine ⟨fun pins s σ H R I h => Call_ (ld_blt I gl no PyProof.Rows.boot_zip (PyProof.Rows.callWith_type1 (thn (args.run pos pins s σ H _ I h) fun us sA ⟨vs, HA, J, rv, q⟩ => ?_) s1 s2))⟩
  obtain ⟨a, b, xs, ys, ev, qx, qy, q⟩ := q
  subst ev
  cases rv with
  | cons ra rv =>
    cases rv with
    | cons rb rv =>
      cases rv
      cases ra
      cases rb
      obtain ⟨as, r1, p1, _⟩ := J.list qx
      obtain ⟨bs, r2, p2, _⟩ := J.tuple qy
      have la : a < sA.heap.objs.size := p1.lt
      have lb : b < sA.heap.objs.size := by obtain ⟨o, ho, _⟩ := id p2; exact Heap.lt_size ho
      refine zip_begins2 (begins_list a as.toArray) (begins_tuple b bs.toArray) p1.isList p2 fun h2 z t o i1 i2 sz kp => wpAny_pyIter_zip z ?_
      refine ⟨sA.heap.objs.size + 4, M5 sA.heap.objs.size, ZstN sA.heap.objs.size a b, _, HA, rfl, J.kept (t' := sA.toks) kp, turnN la lb, ⟨z, t, ⟨_, _, o⟩, ⟨_, i1, rfl, rfl⟩, ⟨_, i2, rfl, rfl⟩⟩, fun c hc => ?_, q⟩
      have up : sA.heap.objs.size ≤ c := by rcases m5 hc with q | q | q | q | q <;> (rw [q]; show @LE.le Nat _ _ _; omega)
      exact J.fpOk up (J.hok.fresh up)
section
variable {K : PySem.W.Frag} {G1 : Hp} {es : List Ent} {M : MM}
theorem yl_zipN {a b : Addr} {xs ys : List V} {ds cs : List PyData} (h : SqL K G1 a xs) (x : Rps K G1 xs ds) (h2 : SqT K G1 b ys) (y : Rps K G1 ys cs) : Yl K G1 (Itn K a b) (zipD ds cs) := fun M G H e w => by
  have s := w.gh.l (e.l h)
  have s2 := w.gh.t (e.t h2)
  refine ⟨fun k d q => ?_, ⟨xs, ys, s, s2, ?_⟩⟩
  · obtain ⟨p, r, hp, hr, rfl⟩ := zipD_at q
    obtain ⟨v, hv, rv⟩ := dps_at (dpsUp e _ _ x) hp
    obtain ⟨u, hu, ru⟩ := dps_at (dpsUp e _ _ y) hr
    refine ⟨⟨xs, ys, v, u, s, s2, hv, hu⟩, fun z H1 ⟨T, x1, x2, e1, n, e2, f1, f2⟩ => ?_⟩
    subst e1 e2
    obtain rfl := Option.some.inj (hv.symm.trans (f1 xs s))
    obtain rfl := Option.some.inj (hu.symm.trans (f2 ys s2))
    exact w.pair n rv ru
  · rw [zipD_len, ← dps_len x, ← dps_len y]
    omega
theorem iw_zipN {ta : TA} {P : List PyData → MM → Prop} (h : EvA K ta es M fun as M1 => ∃ ds cs : List PyData, as = [.dat (.list ds), .dat (.tuple cs)] ∧ P (zipD ds cs) M1) : Iw K (iZipN K ta) es M P := fun σ G H R en w k =>
  h σ G H _ en w fun as M1 vs G1 H1 p d g w1 x => by
    obtain ⟨ds, cs, e, p⟩ := p
    subst e
    cases x with
    | cons x1 x2 =>
      cases x2 with
      | cons x3 x4 =>
        cases x4
        cases x1 with
        | lst s a =>
          cases x3 with
          | tup s2 a2 => exact ⟨_, _, _, _, rfl, SqL.of (w1.gh _ _ s), w1.gh.t s2, k _ M1 G1 H1 _ p d g w1 (yl_zipN (SqL.of s) a s2 a2)⟩
end
end Yw

set_option Elab.async false
set_option linter.all false
set_option maxRecDepth 100000
set_option maxHeartbeats 4000000
/-! Own layer: zip of three tuples. -/
namespace Yw
open PySem PySem.Spec PyProof.Rows L2
/-- tuples at a, b, c, walked together -/
def It3 (K : PySem.W.Frag) (a b c : Addr) : It :=
  ⟨fun i H => ∃ (xs ys zs : List V) (x y z : V), SqT K H a xs ∧ SqT K H b ys ∧ SqT K H c zs ∧ xs[i]? = some x ∧ ys[i]? = some y ∧ zs[i]? = some z,
   fun i H v H2 => ∃ T x y z, v = .ref T ∧ H T = none ∧ H2 = upd H T (.tup [x, y, z]) ∧ (∀ xs, SqT K H a xs → xs[i]? = some x) ∧ (∀ ys, SqT K H b ys → ys[i]? = some y) ∧ (∀ zs, SqT K H c zs → zs[i]? = some z),
   fun i H => ∃ xs ys zs : List V, SqT K H a xs ∧ SqT K H b ys ∧ SqT K H c zs ∧ i ≤ xs.length ∧ i ≤ ys.length ∧ i ≤ zs.length ∧ (i = xs.length ∨ i = ys.length ∨ i = zs.length)⟩
def M6 (n : Nat) : List Addr := [n + 5, n + 3, n + 4, n, n + 1, n + 2]
theorem m6 {n c : Nat} (h : c ∈ M6 n) : c = n + 5 ∨ c = n + 3 ∨ c = n + 4 ∨ c = n ∨ c = n + 1 ∨ c = n + 2 := by simpa [M6] using h
theorem apart6 {n a b c : Nat} (ha : a < n) (hb : b < n) (hc : c < n) : ZipSep3 (n + 5) (n + 3) (n + 4) n (n + 1) (n + 2) [n, a] [n + 1, b] [n + 2, c] :=
  zip_sep3 (N := n) (fp1 := [a]) (fp2 := [b]) (fp3 := [c]) (fun x hx => by rw [List.mem_singleton.mp hx]; exact ha) (fun x hx => by rw [List.mem_singleton.mp hx]; exact hb) (fun x hx => by rw [List.mem_singleton.mp hx]; exact hc)
/-- how the six new objects stand at turn i -/
def Zst3 (n a b c : Nat) (i : Nat) (h : Heap) : Prop :=
  IsZip h (n + 5) (n + 3) (n + 4) .none ∧ IsTupOf3 h (n + 3) (.ref n) (.ref (n + 1)) (.ref (n + 2)) ∧ (∃ x y z, IsTupOf3 h (n + 4) x y z) ∧ h.IsTupleIter n a i ∧ h.IsTupleIter (n + 1) b i ∧ h.IsTupleIter (n + 2) c i
theorem turn3 {P : Program} {w : World} {K : PySem.W.Frag} {elts : List Expr} {kk : Nat} {tpos : Pos} {n a b c : Nat} (ha : a < n) (hb : b < n) (hcn : c < n) :
    Turn P w K (.Tuple elts kk tpos) (It3 K a b c) (M6 n) (n + 5) (Zst3 n a b c) where
  mem := by simp [M6]
  obj := fun i h ⟨z, t, ⟨x, y, z3, o⟩, ⟨o1, e1, _, d1⟩, ⟨o2, e2, _, d2⟩, ⟨o3, e3, _, d3⟩⟩ c hc => by
    rcases m6 hc with q | q | q | q | q | q
    all_goals subst q
    · exact ⟨_, z, fun v q => nomatch q⟩
    · exact ⟨_, t, fun v q => nomatch q⟩
    · exact ⟨_, o, fun v q => nomatch q⟩
    · exact ⟨o1, e1, fun v q => by rw [d1] at q; cases q⟩
    · exact ⟨o2, e2, fun v q => by rw [d2] at q; cases q⟩
    · exact ⟨o3, e3, fun v q => by rw [d3] at q; cases q⟩
  keep := fun i h h2 ⟨z, t, ⟨x, y, z3, o⟩, u1, u2, u3⟩ k =>
    ⟨k _ (by simp [M6]) _ z, k _ (by simp [M6]) _ t, ⟨x, y, z3, k _ (by simp [M6]) _ o⟩, u1.at fun q e => k _ (by simp [M6]) q e, u2.at fun q e => k _ (by simp [M6]) q e, u3.at fun q e => k _ (by simp [M6]) q e⟩
  item := by
    rintro X rfl rfl rfl hc i pins s σ H E I hf ⟨z, t, ⟨x0, y0, z0, o⟩, u1, u2, u3⟩ ⟨xs, ys, zs, x, y, zz, qx, qy, qz, hx, hy, hz⟩
    obtain ⟨as, r1, p1, _⟩ := I.tuple qx
    obtain ⟨bs, r2, p2, _⟩ := I.tuple qy
    obtain ⟨cs, r3, p3, _⟩ := I.tuple qz
    obtain ⟨u, hu, ru⟩ := r1.get hx
    obtain ⟨v, hv, rv⟩ := r2.get hy
    obtain ⟨t3, ht, rt⟩ := r3.get hz
    have zl : n + 5 < s.heap.objs.size := Heap.lt_size z
    have hd := I.ok.hd hc
    have l1 : i < as.toArray.size := by simpa using (List.getElem?_eq_some_iff.mp hu).1
    have l2 : i < bs.toArray.size := by simpa using (List.getElem?_eq_some_iff.mp hv).1
    have l3 : i < cs.toArray.size := by simpa using (List.getElem?_eq_some_iff.mp ht).1
    refine wpAny_pyNext_zipD3_item (apart6 ha hb hcn) (Draws.tuple (A := X.A.in1) hd n a (Nat.ne_of_lt ha) as.toArray) (Draws.tuple (A := X.A.in1) hd (n + 1) b (Nat.ne_of_lt (Nat.lt_succ_of_lt hb)) bs.toArray) (Draws.tuple (A := X.A.in1) hd (n + 2) c (Nat.ne_of_lt (Nat.lt_succ_of_lt (Nat.lt_succ_of_lt hcn))) cs.toArray) z t o ⟨u1, p1⟩ ⟨u2, p2⟩ ⟨u3, p3⟩ l1 l2 l3 ?_
    intro x1 x2 x3 h2 tk e1 e2 e3 z2 o2 w1 w2 w3 pr sz kp
    obtain rfl : u = x1 := by
      have e1 : as.toArray[i]? = some x1 := e1
      rw [show as.toArray[i]? = as[i]? by simp, hu] at e1
      exact Option.some.inj e1
    obtain rfl : v = x2 := by
      have e2 : bs.toArray[i]? = some x2 := e2
      rw [show bs.toArray[i]? = bs[i]? by simp, hv] at e2
      exact Option.some.inj e2
    obtain rfl : t3 = x3 := by
      have e3 : cs.toArray[i]? = some x3 := e3
      rw [show cs.toArray[i]? = cs[i]? by simp, ht] at e3
      exact Option.some.inj e3
    refine ⟨_, rfl, wpAny_letOwnedTupleGo_zip (s := { s with heap := h2, toks := tk }) z2 fun h3 z3 same => ?_⟩
    have put : h3.get? s.heap.objs.size = some { cls := .type "tuple", data := .seq #[u, v, t3] } := (same.2 _ (Nat.ne_of_gt zl)).trans pr
    have ob : ObjOk X.prog X.w (upd H s.heap.objs.size (.tup [x, y, zz])) h3 s.heap.objs.size (.tup [x, y, zz]) :=
      ⟨by show 3 ≤ sizeLine; decide, [u, v, t3], .cons ru (.cons rv (.cons rt .nil)), _, put, rfl, _, rfl⟩
    have J : Inv X pins σ (upd H s.heap.objs.size (.tup [x, y, zz])) { s with heap := h3, toks := tk } :=
      I.turnedNew (ch := M6 n) (fun c q nc e => (same.2 c fun z => nc (by simp [M6, z])).trans
        (kp c q (fun z => nc (by simp [M6, z])) (fun z => nc (by simp [M6, z])) (fun z => nc (by simp [M6, z])) (fun z => nc (by simp [M6, z])) (fun z => nc (by simp [M6, z])) e)) hf (Nat.le_refl _) ob
    refine ⟨.ref s.heap.objs.size, _, J, rfl, ⟨_, x, y, zz, rfl, I.hok.fresh (Nat.le_refl _), rfl, fun l hl => by rw [I.tuple_inj hl qx]; exact hx, fun l hl => by rw [I.tuple_inj hl qy]; exact hy, fun l hl => by rw [I.tuple_inj hl qz]; exact hz⟩, ⟨z3, ?_, ⟨u, v, t3, ?_⟩, ?_, ?_, ?_⟩, fun c hcm => ?_⟩
    · exact (same.2 (n + 3) (by show ¬ @Eq Nat _ _; omega)).trans (kp (n + 3) _ (by show ¬ @Eq Nat _ _; omega) (by show ¬ @Eq Nat _ _; omega) (by show ¬ @Eq Nat _ _; omega) (by show ¬ @Eq Nat _ _; omega) (by show ¬ @Eq Nat _ _; omega) t)
    · exact (same.2 (n + 4) (by show ¬ @Eq Nat _ _; omega)).trans o2
    · exact w1.1.at fun q e => (same.2 n (by show ¬ @Eq Nat _ _; omega)).trans e
    · exact w2.1.at fun q e => (same.2 (n + 1) (by show ¬ @Eq Nat _ _; omega)).trans e
    · exact w3.1.at fun q e => (same.2 (n + 2) (by show ¬ @Eq Nat _ _; omega)).trans e
    · have le : @LE.le Nat _ c (n + 5) := by rcases m6 hcm with q | q | q | q | q | q <;> (rw [q]; show @LE.le Nat _ _ _; omega)
      have lt : c < s.heap.objs.size := Nat.lt_of_le_of_lt le zl
      rw [upd_ne (Nat.ne_of_lt lt)]
      exact (hf c hcm).1
  done := by
    rintro X rfl rfl rfl hc i pins s σ H E I hf ⟨z, t, ⟨x0, y0, z0, o⟩, u1, u2, u3⟩ ⟨xs, ys, zs, qx, qy, qz, g1, g2, g3, g4⟩
    obtain ⟨as, r1, p1, _⟩ := I.tuple qx
    obtain ⟨bs, r2, p2, _⟩ := I.tuple qy
    obtain ⟨cs, r3, p3, _⟩ := I.tuple qz
    have hd := I.ok.hd hc
    have l1 := r1.length
    have l2 := r2.length
    have l3 := r3.length
    refine wpAny_pyNext_zipD3_end (apart6 ha hb hcn) (Draws.tuple (A := X.A.in1) hd n a (Nat.ne_of_lt ha) as.toArray) (Draws.tuple (A := X.A.in1) hd (n + 1) b (Nat.ne_of_lt (Nat.lt_succ_of_lt hb)) bs.toArray) (Draws.tuple (A := X.A.in1) hd (n + 2) c (Nat.ne_of_lt (Nat.lt_succ_of_lt (Nat.lt_succ_of_lt hcn))) cs.toArray) z t o ⟨u1, p1⟩ ⟨u2, p2⟩ ⟨u3, p3⟩ (by simp; omega) (by simp; omega) (by simp; omega) (by simp; omega) ?_
    intro h2 tk kp
    exact ⟨rfl, I.turnedL (ch := M6 n) (fun c q nc e => kp c q (fun z => nc (by simp [M6, z])) (fun z => nc (by simp [M6, z])) (fun z => nc (by simp [M6, z])) (fun z => nc (by simp [M6, z])) (fun z => nc (by simp [M6, z])) e) hf⟩
  self := fun A i s Q E st h => wpAny_pyIter_zip st.1 h
def iZip3 (K : PySem.W.Frag) (ta : TA) : TI := fun σ H R => ta σ H fun vs H1 => ∃ a b c xs ys zs, vs = [.ref a, .ref b, .ref c] ∧ SqT K H1 a xs ∧ SqT K H1 b ys ∧ SqT K H1 c zs ∧ R (It3 K a b c) H1
theorem pi_zip3 {X : Cx} {e e2 e3 : Expr} {ta : TA} {p pos tpos : Pos} {elts : List Expr} {kk : Nat} (gl : Gl X "zip") (no : X.mg "zip" = none) (args : PA X [e, e2, e3] ta)
    (s1 : starEach [e, e2, e3] X.env = (false, eval e X.env) :: starEach [e2, e3] X.env := by rfl) (s2 : (backTo pos (starEach [e2, e3] X.env)).any (·.1) = false := by rfl) :
    PI X (.Tuple elts kk tpos) (.Call (.Name "zip" p) [e, e2, e3] [] pos) (iZip3 X.K ta) := by
  refine ⟨fun pins s σ H R I h => Call_ (ld_blt I gl no PyProof.Rows.boot_zip (PyProof.Rows.callWith_type1 (thn (args.run pos pins s σ H _ I h) fun us sA ⟨vs, HA, J, rv, q⟩ => ?_) s1 s2))⟩
  obtain ⟨a, b, c, xs, ys, zs, ev, qx, qy, qz, q⟩ := q
  subst ev
  cases rv with
  | cons ra rv =>
    cases rv with
    | cons rb rv =>
      cases rv with
      | cons rc rv =>
        cases rv
        cases ra
        cases rb
        cases rc
        obtain ⟨as, r1, p1, _⟩ := J.tuple qx
        obtain ⟨bs, r2, p2, _⟩ := J.tuple qy
        obtain ⟨cs, r3, p3, _⟩ := J.tuple qz
        have la : a < sA.heap.objs.size := by obtain ⟨o, ho, _⟩ := id p1; exact Heap.lt_size ho
        have lb : b < sA.heap.objs.size := by obtain ⟨o, ho, _⟩ := id p2; exact Heap.lt_size ho
        have lc : c < sA.heap.objs.size := by obtain ⟨o, ho, _⟩ := id p3; exact Heap.lt_size ho
        refine zip_begins3 (begins_tuple a as.toArray) (begins_tuple b bs.toArray) (begins_tuple c cs.toArray) p1 p2 p3 fun h2 z t o i1 i2 i3 sz kp => wpAny_pyIter_zip z ?_
        refine ⟨sA.heap.objs.size + 5, M6 sA.heap.objs.size, Zst3 sA.heap.objs.size a b c, _, HA, rfl, J.kept (t' := sA.toks) kp, turn3 la lb lc, ⟨z, t, ⟨_, _, _, o⟩, ⟨_, i1, rfl, rfl⟩, ⟨_, i2, rfl, rfl⟩, ⟨_, i3, rfl, rfl⟩⟩, fun c hc => ?_, q⟩
        have up : sA.heap.objs.size ≤ c := by rcases m6 hc with q | q | q | q | q | q <;> (rw [q]; show @LE.le Nat _ _ _; omega)
        exact J.fpOk up (J.hok.fresh up)
def zip3D : List PyData → List PyData → List PyData → List PyData
  | a :: as, b :: bs, c :: cs => .tuple [a, b, c] :: zip3D as bs cs
  | _, _, _ => []
theorem zip3D_at : ∀ {as bs cs : List PyData} {k : Nat} {d : PyData}, (zip3D as bs cs)[k]? = some d → ∃ a b c, as[k]? = some a ∧ bs[k]? = some b ∧ cs[k]? = some c ∧ d = .tuple [a, b, c]
  | [], _, _, _, _, h => by simp [zip3D] at h
  | _ :: _, [], _, _, _, h => by simp [zip3D] at h
  | _ :: _, _ :: _, [], _, _, h => by simp [zip3D] at h
  | a :: as, b :: bs, c :: cs, 0, d, h => ⟨a, b, c, rfl, rfl, rfl, by simpa [zip3D] using h.symm⟩
  | a :: as, b :: bs, c :: cs, k + 1, d, h => by
    obtain ⟨x, y, z, p, q, r, e⟩ := zip3D_at (as := as) (bs := bs) (cs := cs) (k := k) (by simpa [zip3D] using h)
    exact ⟨x, y, z, by simpa using p, by simpa using q, by simpa using r, e⟩
theorem zip3D_len : ∀ (as bs cs : List PyData), (zip3D as bs cs).length = min as.length (min bs.length cs.length)
  | [], _, _ => by simp [zip3D]
  | _ :: _, [], _ => by simp [zip3D]
  | _ :: _, _ :: _, [] => by simp [zip3D]
  | a :: as, b :: bs, c :: cs => by
    show (zip3D as bs cs).length + 1 = min (as.length + 1) (min (bs.length + 1) (cs.length + 1))
    rw [zip3D_len as bs cs]
    omega
section
variable {K : PySem.W.Frag} {G : Hp} {H : Hp} {G1 : Hp} {es : List Ent} {M : MM}
theorem Wf.trip (w : Wf K G M H) {T : Addr} {x y z : V} {a b c : PyData} (n : H T = none) (hx : Rp K G x a) (hy : Rp K G y b) (hz : Rp K G z c) :
    ∃ G2, Grow (dom M) G H G2 (upd H T (.tup [x, y, z])) ∧ Wf K G2 M (upd H T (.tup [x, y, z])) ∧ Rp K G2 (.ref T) (.tuple [a, b, c]) := by
  have zz := w.newG (o := HO.tup [x, y, z]) n
  have u := Ex.add (o := HO.tup [x, y, z]) (w.none_g n)
  exact ⟨_, zz.2, zz.1, .tup (.inl (.inl upd_same)) (.cons (dpUp u _ _ hx) (.cons (dpUp u _ _ hy) (.cons (dpUp u _ _ hz) .nil)))⟩
theorem yl_zip3 {a b c : Addr} {xs ys zs : List V} {ds cs es : List PyData} (h : SqT K G1 a xs) (x : Rps K G1 xs ds) (h2 : SqT K G1 b ys) (y : Rps K G1 ys cs) (h3 : SqT K G1 c zs) (z : Rps K G1 zs es) : Yl K G1 (It3 K a b c) (zip3D ds cs es) := fun M G H e w => by
  have s := w.gh.t (e.t h)
  have s2 := w.gh.t (e.t h2)
  have s3 := w.gh.t (e.t h3)
  refine ⟨fun k d q => ?_, ⟨xs, ys, zs, s, s2, s3, ?_⟩⟩
  · obtain ⟨p, r, t, hp, hr, ht, rfl⟩ := zip3D_at q
    obtain ⟨v, hv, rv⟩ := dps_at (dpsUp e _ _ x) hp
    obtain ⟨u, hu, ru⟩ := dps_at (dpsUp e _ _ y) hr
    obtain ⟨o, ho, ro⟩ := dps_at (dpsUp e _ _ z) ht
    refine ⟨⟨xs, ys, zs, v, u, o, s, s2, s3, hv, hu, ho⟩, fun z H1 ⟨T, x1, x2, x3, e1, n, e2, f1, f2, f3⟩ => ?_⟩
    subst e1 e2
    obtain rfl := Option.some.inj (hv.symm.trans (f1 xs s))
    obtain rfl := Option.some.inj (hu.symm.trans (f2 ys s2))
    obtain rfl := Option.some.inj (ho.symm.trans (f3 zs s3))
    exact w.trip n rv ru ro
  · rw [zip3D_len, ← dps_len x, ← dps_len y, ← dps_len z]
    omega
theorem iw_zip3 {ta : TA} {P : List PyData → MM → Prop} (h : EvA K ta es M fun as M1 => ∃ ds cs fs : List PyData, as = [.dat (.tuple ds), .dat (.tuple cs), .dat (.tuple fs)] ∧ P (zip3D ds cs fs) M1) : Iw K (iZip3 K ta) es M P := fun σ G H R en w k =>
  h σ G H _ en w fun as M1 vs G1 H1 p d g w1 x => by
    obtain ⟨ds, cs, fs, e, p⟩ := p
    subst e
    cases x with
    | cons x1 x2 =>
      cases x2 with
      | cons x3 x4 =>
        cases x4 with
        | cons x5 x6 =>
          cases x6
          cases x1 with
          | tup s a =>
            cases x3 with
            | tup s2 a2 =>
              cases x5 with
              | tup s3 a3 => exact ⟨_, _, _, _, _, _, rfl, w1.gh.t s, w1.gh.t s2, w1.gh.t s3, k _ M1 G1 H1 _ p d g w1 (yl_zip3 s a s2 a2 s3 a3)⟩
end
end Yw

set_option Elab.async false
set_option linter.all false
set_option maxRecDepth 100000
set_option maxHeartbeats 1000000
set_option exponentiation.threshold 20000
namespace K34
open PySem PySem.Spec PyProof.Rows L2 Yw
def topS (i : Nat) : Stmt := PySem.Challenge.pw_flutterheld_k34_what_is_heard_of_reels.main.body.getD i (.Pass ⟨0, 0, 0, 0⟩)
abbrev s_cells_of : Stmt := topS 2
abbrev N_cells_of : List Str := ["row", "cells", "run"]
theorem sc_cells_of : FnScope N_cells_of ["row"] (defScope s_cells_of) := ⟨rfl, rfl, rfl, by decide +kernel, rfl, by decide +kernel, by decide +kernel⟩
abbrev s_negated : Stmt := topS 4
abbrev N_negated : List Str := ["one"]
theorem sc_negated : FnScope N_negated ["one"] (defScope s_negated) := ⟨rfl, rfl, rfl, by decide +kernel, rfl, by decide +kernel, by decide +kernel⟩
abbrev s_added : Stmt := topS 5
abbrev N_added : List Str := ["one", "other", "shared", "part", "n", "again"]
theorem sc_added : FnScope N_added ["one", "other"] (defScope s_added) := ⟨rfl, rfl, rfl, by decide +kernel, rfl, by decide +kernel, by decide +kernel⟩
abbrev s_compared : Stmt := topS 6
abbrev N_compared : List Str := ["one", "other", "n", "m"]
theorem sc_compared : FnScope N_compared ["one", "other"] (defScope s_compared) := ⟨rfl, rfl, rfl, by decide +kernel, rfl, by decide +kernel, by decide +kernel⟩
abbrev s_merged : Stmt := topS 7
abbrev N_merged : List Str := ["some", "others"]
theorem sc_merged : FnScope N_merged ["some", "others"] (defScope s_merged) := ⟨rfl, rfl, rfl, by decide +kernel, rfl, by decide +kernel, by decide +kernel⟩
abbrev s_merged_by : Stmt := topS 8
abbrev N_merged_by : List Str := ["order", "some", "others", "found", "at", "other"]
theorem sc_merged_by : FnScope N_merged_by ["order", "some", "others"] (defScope s_merged_by) := ⟨rfl, rfl, rfl, by decide +kernel, rfl, by decide +kernel, by decide +kernel⟩
abbrev s_in_order : Stmt := topS 9
abbrev N_in_order : List Str := ["some"]
theorem sc_in_order : FnScope N_in_order ["some"] (defScope s_in_order) := ⟨rfl, rfl, rfl, by decide +kernel, rfl, by decide +kernel, by decide +kernel⟩
abbrev s_in_order_by : Stmt := topS 10
abbrev N_in_order_by : List Str := ["order", "some", "half"]
theorem sc_in_order_by : FnScope N_in_order_by ["order", "some"] (defScope s_in_order_by) := ⟨rfl, rfl, rfl, by decide +kernel, rfl, by decide +kernel, by decide +kernel⟩
abbrev s_is_integer : Stmt := topS 12
abbrev N_is_integer : List Str := ["thing"]
theorem sc_is_integer : FnScope N_is_integer ["thing"] (defScope s_is_integer) := ⟨rfl, rfl, rfl, by decide +kernel, rfl, by decide +kernel, by decide +kernel⟩
abbrev s_is_run : Stmt := topS 13
abbrev N_is_run : List Str := ["bounds", "thing"]
theorem sc_is_run : FnScope N_is_run ["bounds", "thing"] (defScope s_is_run) := ⟨rfl, rfl, rfl, by decide +kernel, rfl, by decide +kernel, by decide +kernel⟩
abbrev s_is_row : Stmt := topS 14
abbrev N_is_row : List Str := ["bounds", "thing", "part"]
theorem sc_is_row : FnScope N_is_row ["bounds", "thing"] (defScope s_is_row) := ⟨rfl, rfl, rfl, by decide +kernel, rfl, by decide +kernel, by decide +kernel⟩
abbrev s_are_all : Stmt := topS 15
abbrev N_are_all : List Str := ["run", "runs", "one"]
theorem sc_are_all : FnScope N_are_all ["run", "runs"] (defScope s_are_all) := ⟨rfl, rfl, rfl, by decide +kernel, rfl, by decide +kernel, by decide +kernel⟩
abbrev s_is_led : Stmt := topS 16
abbrev N_is_led : List Str := ["bounds", "thing", "most", "lead"]
theorem sc_is_led : FnScope N_is_led ["bounds", "thing"] (defScope s_is_led) := ⟨rfl, rfl, rfl, by decide +kernel, rfl, by decide +kernel, by decide +kernel⟩
abbrev s_is_body : Stmt := topS 17
abbrev N_is_body : List Str := ["form", "thing"]
theorem sc_is_body : FnScope N_is_body ["form", "thing"] (defScope s_is_body) := ⟨rfl, rfl, rfl, by decide +kernel, rfl, by decide +kernel, by decide +kernel⟩
abbrev s_is_full : Stmt := topS 18
abbrev N_is_full : List Str := ["form", "thing", "bounds", "most", "lead", "tail"]
theorem sc_is_full : FnScope N_is_full ["form", "thing"] (defScope s_is_full) := ⟨rfl, rfl, rfl, by decide +kernel, rfl, by decide +kernel, by decide +kernel⟩
abbrev s_harmed : Stmt := topS 20
abbrev N_harmed : List Str := ["hearing", "harm", "word", "harmed_by", "index", "moment"]
theorem sc_harmed : FnScope N_harmed ["hearing", "harm"] (defScope s_harmed) := ⟨rfl, rfl, rfl, by decide +kernel, rfl, by decide +kernel, by decide +kernel⟩
abbrev s_cell_moments : Stmt := topS 22
abbrev N_cell_moments : List Str := ["telling", "moment", "ride", "moments", "lasting"]
theorem sc_cell_moments : FnScope N_cell_moments ["telling"] (defScope s_cell_moments) := ⟨rfl, rfl, rfl, by decide +kernel, rfl, by decide +kernel, by decide +kernel⟩
abbrev s_mark_moments : Stmt := topS 23
abbrev N_mark_moments : List Str := ["telling", "row", "moments", "cell"]
theorem sc_mark_moments : FnScope N_mark_moments ["telling", "row"] (defScope s_mark_moments) := ⟨rfl, rfl, rfl, by decide +kernel, rfl, by decide +kernel, by decide +kernel⟩
abbrev s_hearing_of : Stmt := topS 25
abbrev N_hearing_of : List Str := ["telling", "row", "shifts", "moment", "shift"]
theorem sc_hearing_of : FnScope N_hearing_of ["telling", "row", "shifts"] (defScope s_hearing_of) := ⟨rfl, rfl, rfl, by decide +kernel, rfl, by decide +kernel, by decide +kernel⟩
abbrev s_heard_back : Stmt := topS 26
abbrev N_heard_back : List Str := ["hearing", "moment"]
theorem sc_heard_back : FnScope N_heard_back ["hearing"] (defScope s_heard_back) := ⟨rfl, rfl, rfl, by decide +kernel, rfl, by decide +kernel, by decide +kernel⟩
abbrev s_heard_slot : Stmt := topS 28
abbrev N_heard_slot : List Str := ["slot", "one", "telling", "shifts", "harm"]
theorem sc_heard_slot : FnScope N_heard_slot ["slot", "one"] (defScope s_heard_slot) := ⟨rfl, rfl, rfl, by decide +kernel, rfl, by decide +kernel, by decide +kernel⟩
abbrev s_heard_reel : Stmt := topS 29
abbrev N_heard_reel : List Str := ["reel", "night", "slot", "one"]
theorem sc_heard_reel : FnScope N_heard_reel ["reel", "night"] (defScope s_heard_reel) := ⟨rfl, rfl, rfl, by decide +kernel, rfl, by decide +kernel, by decide +kernel⟩
abbrev s_heard_reel_back : Stmt := topS 30
abbrev N_heard_reel_back : List Str := ["reel", "night", "hearing"]
theorem sc_heard_reel_back : FnScope N_heard_reel_back ["reel", "night"] (defScope s_heard_reel_back) := ⟨rfl, rfl, rfl, by decide +kernel, rfl, by decide +kernel, by decide +kernel⟩
abbrev s_whole_slots : Stmt := topS 31
abbrev N_whole_slots : List Str := ["form", "reel", "night", "index", "slot"]
theorem sc_whole_slots : FnScope N_whole_slots ["form", "reel", "night"] (defScope s_whole_slots) := ⟨rfl, rfl, rfl, by decide +kernel, rfl, by decide +kernel, by decide +kernel⟩
abbrev s_l_bag : Stmt := topS 33
abbrev N_l_bag : List Str := ["script", "cell"]
theorem sc_l_bag : FnScope N_l_bag ["script"] (defScope s_l_bag) := ⟨rfl, rfl, rfl, by decide +kernel, rfl, by decide +kernel, by decide +kernel⟩
abbrev s_l_take : Stmt := topS 34
abbrev N_l_take : List Str := ["bag", "many", "cell", "stirred", "value", "begin", "second"]
theorem sc_l_take : FnScope N_l_take ["bag", "many"] (defScope s_l_take) := ⟨rfl, rfl, rfl, by decide +kernel, rfl, by decide +kernel, by decide +kernel⟩
abbrev s_l_some : Stmt := topS 35
abbrev N_l_some : List Str := ["bag", "things"]
theorem sc_l_some : FnScope N_l_some ["bag", "things"] (defScope s_l_some) := ⟨rfl, rfl, rfl, by decide +kernel, rfl, by decide +kernel, by decide +kernel⟩
abbrev s_l_alike : Stmt := topS 36
abbrev N_l_alike : List Str := ["found", "due"]
theorem sc_l_alike : FnScope N_l_alike ["found", "due"] (defScope s_l_alike) := ⟨rfl, rfl, rfl, by decide +kernel, rfl, by decide +kernel, by decide +kernel⟩
abbrev s_l_common : Stmt := topS 37
abbrev N_l_common : List Str := ["one", "other"]
theorem sc_l_common : FnScope N_l_common ["one", "other"] (defScope s_l_common) := ⟨rfl, rfl, rfl, by decide +kernel, rfl, by decide +kernel, by decide +kernel⟩
abbrev s_l_part : Stmt := topS 38
abbrev N_l_part : List Str := ["n", "d", "shared"]
theorem sc_l_part : FnScope N_l_part ["n", "d"] (defScope s_l_part) := ⟨rfl, rfl, rfl, by decide +kernel, rfl, by decide +kernel, by decide +kernel⟩
abbrev s_l_add : Stmt := topS 39
abbrev N_l_add : List Str := ["one", "other"]
theorem sc_l_add : FnScope N_l_add ["one", "other"] (defScope s_l_add) := ⟨rfl, rfl, rfl, by decide +kernel, rfl, by decide +kernel, by decide +kernel⟩
abbrev s_l_many : Stmt := topS 40
abbrev N_l_many : List Str := ["one", "many"]
theorem sc_l_many : FnScope N_l_many ["one", "many"] (defScope s_l_many) := ⟨rfl, rfl, rfl, by decide +kernel, rfl, by decide +kernel, by decide +kernel⟩
abbrev s_l_is_below : Stmt := topS 41
abbrev N_l_is_below : List Str := ["one", "other"]
theorem sc_l_is_below : FnScope N_l_is_below ["one", "other"] (defScope s_l_is_below) := ⟨rfl, rfl, rfl, by decide +kernel, rfl, by decide +kernel, by decide +kernel⟩
abbrev s_l_sums : Stmt := topS 42
abbrev N_l_sums : List Str := ["telling", "found", "cell"]
theorem sc_l_sums : FnScope N_l_sums ["telling"] (defScope s_l_sums) := ⟨rfl, rfl, rfl, by decide +kernel, rfl, by decide +kernel, by decide +kernel⟩
abbrev s_l_cells : Stmt := topS 43
abbrev N_l_cells : List Str := ["row", "found", "run"]
theorem sc_l_cells : FnScope N_l_cells ["row"] (defScope s_l_cells) := ⟨rfl, rfl, rfl, by decide +kernel, rfl, by decide +kernel, by decide +kernel⟩
abbrev s_l_phi : Stmt := topS 44
abbrev N_l_phi : List Str := ["bounds", "t"]
theorem sc_l_phi : FnScope N_l_phi ["bounds", "t"] (defScope s_l_phi) := ⟨rfl, rfl, rfl, by decide +kernel, rfl, by decide +kernel, by decide +kernel⟩
abbrev s_l_turn : Stmt := topS 45
abbrev N_l_turn : List Str := ["bounds", "need", "step", "low", "high", "middle"]
theorem sc_l_turn : FnScope N_l_turn ["bounds"] (defScope s_l_turn) := ⟨rfl, rfl, rfl, by decide +kernel, rfl, by decide +kernel, by decide +kernel⟩
abbrev s_l_lead_strain : Stmt := topS 46
abbrev N_l_lead_strain : List Str := ["bounds", "cells", "least", "at", "its"]
theorem sc_l_lead_strain : FnScope N_l_lead_strain ["bounds", "cells", "least"] (defScope s_l_lead_strain) := ⟨rfl, rfl, rfl, by decide +kernel, rfl, by decide +kernel, by decide +kernel⟩
abbrev s_l_pull : Stmt := topS 47
abbrev N_l_pull : List Str := ["bounds", "over", "top", "best", "known", "cells", "its", "run", "ahead", "least"]
theorem sc_l_pull : FnScope N_l_pull ["bounds"] (defScope s_l_pull) := ⟨rfl, rfl, rfl, by decide +kernel, rfl, by decide +kernel, by decide +kernel⟩
abbrev s_l_far_pull : Stmt := topS 48
abbrev N_l_far_pull : List Str := ["bounds", "over", "lo", "most", "found", "cells", "beyond", "here", "best", "its"]
theorem sc_l_far_pull : FnScope N_l_far_pull ["bounds", "over"] (defScope s_l_far_pull) := ⟨rfl, rfl, rfl, by decide +kernel, rfl, by decide +kernel, by decide +kernel⟩
abbrev s_l_needed : Stmt := topS 49
abbrev N_l_needed : List Str := ["bounds", "run", "most", "found"]
theorem sc_l_needed : FnScope N_l_needed ["bounds", "run", "most"] (defScope s_l_needed) := ⟨rfl, rfl, rfl, by decide +kernel, rfl, by decide +kernel, by decide +kernel⟩
abbrev s_l_fraction : Stmt := topS 50
abbrev N_l_fraction : List Str := ["bag", "wide"]
theorem sc_l_fraction : FnScope N_l_fraction ["bag", "wide"] (defScope s_l_fraction) := ⟨rfl, rfl, rfl, by decide +kernel, rfl, by decide +kernel, by decide +kernel⟩
abbrev s_l_shape_of_bounds : Stmt := topS 51
abbrev N_l_shape_of_bounds : List Str := ["bag", "most", "lo", "wide", "drift", "shift"]
theorem sc_l_shape_of_bounds : FnScope N_l_shape_of_bounds ["bag", "most"] (defScope s_l_shape_of_bounds) := ⟨rfl, rfl, rfl, by decide +kernel, rfl, by decide +kernel, by decide +kernel⟩
abbrev s_l_least_cell : Stmt := topS 52
abbrev N_l_least_cell : List Str := ["drift", "shift", "lo", "most", "lead", "bounds", "n", "d"]
theorem sc_l_least_cell : FnScope N_l_least_cell ["drift", "shift", "lo", "most", "lead"] (defScope s_l_least_cell) := ⟨rfl, rfl, rfl, by decide +kernel, rfl, by decide +kernel, by decide +kernel⟩
abbrev s_l_least_watchful_cell : Stmt := topS 53
abbrev N_l_least_watchful_cell : List Str := ["drift", "shift", "lo", "most", "lead", "bounds", "n", "d"]
theorem sc_l_least_watchful_cell : FnScope N_l_least_watchful_cell ["drift", "shift", "lo", "most", "lead"] (defScope s_l_least_watchful_cell) := ⟨rfl, rfl, rfl, by decide +kernel, rfl, by decide +kernel, by decide +kernel⟩
abbrev s_l_bounds : Stmt := topS 54
abbrev N_l_bounds : List Str := ["bag", "most", "drift", "shift", "lo", "wide", "lead", "cells", "cell"]
theorem sc_l_bounds : FnScope N_l_bounds ["bag", "most"] (defScope s_l_bounds) := ⟨rfl, rfl, rfl, by decide +kernel, rfl, by decide +kernel, by decide +kernel⟩
abbrev s_l_lead : Stmt := topS 55
abbrev N_l_lead : List Str := ["bounds"]
theorem sc_l_lead : FnScope N_l_lead ["bounds"] (defScope s_l_lead) := ⟨rfl, rfl, rfl, by decide +kernel, rfl, by decide +kernel, by decide +kernel⟩
abbrev s_l_ride : Stmt := topS 56
abbrev N_l_ride : List Str := ["bag", "bounds", "cells", "found", "way", "cell", "ahead", "half", "step", "next_one"]
theorem sc_l_ride : FnScope N_l_ride ["bag", "bounds", "cells"] (defScope s_l_ride) := ⟨rfl, rfl, rfl, by decide +kernel, rfl, by decide +kernel, by decide +kernel⟩
abbrev s_l_telling : Stmt := topS 57
abbrev N_l_telling : List Str := ["bag", "bounds", "cells"]
theorem sc_l_telling : FnScope N_l_telling ["bag", "bounds", "cells"] (defScope s_l_telling) := ⟨rfl, rfl, rfl, by decide +kernel, rfl, by decide +kernel, by decide +kernel⟩
abbrev s_l_shifts : Stmt := topS 58
abbrev N_l_shifts : List Str := ["bag", "bounds", "marks", "shift", "menu", "mark"]
theorem sc_l_shifts : FnScope N_l_shifts ["bag", "bounds", "marks"] (defScope s_l_shifts) := ⟨rfl, rfl, rfl, by decide +kernel, rfl, by decide +kernel, by decide +kernel⟩
abbrev s_l_in_order : Stmt := topS 59
abbrev N_l_in_order : List Str := ["some", "found", "one", "at"]
theorem sc_l_in_order : FnScope N_l_in_order ["some"] (defScope s_l_in_order) := ⟨rfl, rfl, rfl, by decide +kernel, rfl, by decide +kernel, by decide +kernel⟩
abbrev s_l_hearing : Stmt := topS 60
abbrev N_l_hearing : List Str := ["telling", "row", "shifts", "moments", "cell", "shift"]
theorem sc_l_hearing : FnScope N_l_hearing ["telling", "row", "shifts"] (defScope s_l_hearing) := ⟨rfl, rfl, rfl, by decide +kernel, rfl, by decide +kernel, by decide +kernel⟩
abbrev s_l_bodies : Stmt := topS 61
abbrev N_l_bodies : List Str := ["bounds", "data", "found", "run", "row"]
theorem sc_l_bodies : FnScope N_l_bodies ["bounds", "data"] (defScope s_l_bodies) := ⟨rfl, rfl, rfl, by decide +kernel, rfl, by decide +kernel, by decide +kernel⟩
abbrev s_l_form : Stmt := topS 62
abbrev N_l_form : List Str := ["bag", "bounds", "most", "data"]
theorem sc_l_form : FnScope N_l_form ["bag", "bounds", "most"] (defScope s_l_form) := ⟨rfl, rfl, rfl, by decide +kernel, rfl, by decide +kernel, by decide +kernel⟩
abbrev s_l_full_row : Stmt := topS 63
abbrev N_l_full_row : List Str := ["bag", "form", "lead"]
theorem sc_l_full_row : FnScope N_l_full_row ["bag", "form"] (defScope s_l_full_row) := ⟨rfl, rfl, rfl, by decide +kernel, rfl, by decide +kernel, by decide +kernel⟩
abbrev s_l_slot : Stmt := topS 64
abbrev N_l_slot : List Str := ["bag", "form", "full"]
theorem sc_l_slot : FnScope N_l_slot ["bag", "form"] (defScope s_l_slot) := ⟨rfl, rfl, rfl, by decide +kernel, rfl, by decide +kernel, by decide +kernel⟩
abbrev s_l_harmed : Stmt := topS 65
abbrev N_l_harmed : List Str := ["hearing", "harm", "index", "moment"]
theorem sc_l_harmed : FnScope N_l_harmed ["hearing", "harm"] (defScope s_l_harmed) := ⟨rfl, rfl, rfl, by decide +kernel, rfl, by decide +kernel, by decide +kernel⟩
abbrev s_l_mild_harm : Stmt := topS 66
abbrev N_l_mild_harm : List Str := ["bag", "form", "slot", "hearing", "lead", "last", "is_full_v", "ways", "late", "early", "clicks", "index", "click"]
theorem sc_l_mild_harm : FnScope N_l_mild_harm ["bag", "form", "slot", "hearing"] (defScope s_l_mild_harm) := ⟨rfl, rfl, rfl, by decide +kernel, rfl, by decide +kernel, by decide +kernel⟩
abbrev s_l_clicks : Stmt := topS 67
abbrev N_l_clicks : List Str := ["bag", "hearing", "found", "step", "moment", "click"]
theorem sc_l_clicks : FnScope N_l_clicks ["bag", "hearing"] (defScope s_l_clicks) := ⟨rfl, rfl, rfl, by decide +kernel, rfl, by decide +kernel, by decide +kernel⟩
abbrev s_l_is_full : Stmt := topS 68
abbrev N_l_is_full : List Str := ["form", "slot", "lead"]
theorem sc_l_is_full : FnScope N_l_is_full ["form", "slot"] (defScope s_l_is_full) := ⟨rfl, rfl, rfl, by decide +kernel, rfl, by decide +kernel, by decide +kernel⟩
abbrev s_l_item : Stmt := topS 69
abbrev N_l_item : List Str := ["bag", "form", "slot", "telling", "shifts"]
theorem sc_l_item : FnScope N_l_item ["bag", "form", "slot"] (defScope s_l_item) := ⟨rfl, rfl, rfl, by decide +kernel, rfl, by decide +kernel, by decide +kernel⟩
abbrev s_l_heard : Stmt := topS 70
abbrev N_l_heard : List Str := ["slot", "one"]
theorem sc_l_heard : FnScope N_l_heard ["slot", "one"] (defScope s_l_heard) := ⟨rfl, rfl, rfl, by decide +kernel, rfl, by decide +kernel, by decide +kernel⟩
abbrev s_l_back : Stmt := topS 71
abbrev N_l_back : List Str := ["hearing", "n", "d"]
theorem sc_l_back : FnScope N_l_back ["hearing"] (defScope s_l_back) := ⟨rfl, rfl, rfl, by decide +kernel, rfl, by decide +kernel, by decide +kernel⟩
abbrev s_l_reel_and_night : Stmt := topS 72
abbrev N_l_reel_and_night : List Str := ["bag", "form", "most", "reel", "step", "slot"]
theorem sc_l_reel_and_night : FnScope N_l_reel_and_night ["bag", "form", "most"] (defScope s_l_reel_and_night) := ⟨rfl, rfl, rfl, by decide +kernel, rfl, by decide +kernel, by decide +kernel⟩
abbrev s_law : Stmt := topS 73
abbrev N_law : List Str := ["script", "bag", "step", "form", "reel", "night", "some", "slot", "one", "clicks", "shown", "due", "full", "whole", "told", "hearing", "at"]
theorem sc_law : FnScope N_law ["script"] (defScope s_law) := ⟨rfl, rfl, rfl, by decide +kernel, rfl, by decide +kernel, by decide +kernel⟩

structure Bt (mg : Str → Option Value) : Prop where
  b_abs : mg "abs" = none
  b_all : mg "all" = none
  b_bool : mg "bool" = none
  b_enumerate : mg "enumerate" = none
  b_int : mg "int" = none
  b_isinstance : mg "isinstance" = none
  b_len : mg "len" = none
  b_list : mg "list" = none
  b_max : mg "max" = none
  b_min : mg "min" = none
  b_range : mg "range" = none
  b_repr : mg "repr" = none
  b_sum : mg "sum" = none
  b_tuple : mg "tuple" = none
  b_zip : mg "zip" = none
  m_gcd : mg "gcd" = some (.builtin "math.gcd")

/-- one of a list or of a tuple -/
def rSome : RR := fun ds po => ∃ (d0 : PyData) (things : List PyData), ds = [d0] ∧ Sq d0 things ∧ things ≠ [] ∧ things.length ≤ 1000 ∧ po = fun r => r ∈ things
theorem c_someS {K : PySem.W.Frag} {b : Addr} {C : Bag} {Mr : MM} {Q : Ent → MM → Prop} {d0 : PyData} {things : List PyData} (hs : Sq d0 things) (hn : things ≠ []) (hl : things.length ≤ 1000) (p : ∀ d C1, d ∈ things → Q (.dat d) ((b, .lst (Bag.ds C1)) :: Mr)) :
    Cb K (fun vs H Q => SpD K rSome vs H Q E0) [.ref b, .dat d0] ((b, .lst (Bag.ds C)) :: Mr) Q :=
  c_D (.cons .nil) _ ⟨d0, things, rfl, hs, hn, hl, rfl⟩ fun d C1 h => p d C1 h
theorem c_some {K : PySem.W.Frag} {b : Addr} {C : Bag} {Mr : MM} {Q : Ent → MM → Prop} {things : List PyData} (hn : things ≠ []) (hl : things.length ≤ 1000) (p : ∀ d C1, d ∈ things → Q (.dat d) ((b, .lst (Bag.ds C1)) :: Mr)) :
    Cb K (fun vs H Q => SpD K rSome vs H Q E0) [.ref b, .dat (.list things)] ((b, .lst (Bag.ds C)) :: Mr) Q := c_someS (.lst _) hn hl p
end K34

set_option Elab.async false
set_option linter.all false
set_option maxRecDepth 100000
set_option maxHeartbeats 1000000
set_option exponentiation.threshold 20000
namespace K34
open PySem PySem.Spec PyProof.Rows L2 Yw
local macro_rules | `(tactic| walk_at "ye") => `(tactic| first
  | ((with_reducible show Ev _ (tVar _) _ _ _); first | refine ev_dat rfl ?_ | refine ev_ref rfl ?_ | refine ev_var rfl (fun z => nomatch z) ?_)
  | ((with_reducible show Ev _ (tC _) _ _ _); first | with_reducible refine ev_int ?_ | with_reducible refine ev_bl ?_ | with_reducible refine ev_non ?_ | with_reducible refine ev_str ?_ | with_reducible refine ev_ty ?_)
  | with_reducible refine ev_op ?_
  | with_reducible refine ev_un ?_
  | with_reducible refine ev_go ?_
  | with_reducible refine ev_cb ?_
  | with_reducible refine ev_tupD ?_
  | with_reducible refine ev_lstD ?_
  | with_reducible refine ev_chain ?_
  | with_reducible refine ev_if ?_
  | with_reducible refine ev_andV ?_
  | with_reducible refine ev_orV ?_
  | with_reducible refine ev_notV ?_
  | with_reducible refine ev_sl ?_
  | with_reducible refine ev_bm ?_)
local macro_rules | `(tactic| walk_at "ya") => `(tactic| first
  | with_reducible refine ea_cons ?_
  | with_reducible refine ea_nil ?_
  | with_reducible refine eo_none ?_
  | with_reducible refine eo_some ?_
  | with_reducible refine et_test ?_
  | with_reducible refine et_B ?_
  | with_reducible refine et_and ?_
  | with_reducible refine et_or ?_
  | with_reducible refine et_not ?_
  | with_reducible refine et_yes ?_
  | with_reducible refine tg_name ?_
  | with_reducible refine tgs_nil ?_
  | with_reducible refine tgs_cons ?_
  | ((with_reducible show Tg _ (gTup _ _ _) _ _ _ _); refine tg_tup rfl ?_)
  | with_reducible refine tg_sub ?_)
local macro_rules | `(tactic| walk_at "ys") => `(tactic| first
  | with_reducible refine sj_seq ?_
  | with_reducible refine sj_next ?_
  | with_reducible refine sj_newD ?_
  | with_reducible refine sj_set ?_
  | with_reducible refine sj_par ?_
  | with_reducible refine sj_ret ?_
  | with_reducible refine sj_drop ?_
  | with_reducible refine sj_if ?_
  | with_reducible refine sj_asg ?_
  | with_reducible refine sj_augS ?_
  | with_reducible refine iw_seq ?_
  | with_reducible refine iw_zip ?_
  | with_reducible refine iw_list ?_
  | with_reducible refine iw_tup ?_
  | with_reducible refine iw_r1 ?_
  | with_reducible refine iw_r2 ?_
  | with_reducible refine iw_enumT ?_)
local macro_rules | `(tactic| walk_at "yo") => `(tactic| first
  | with_reducible refine o_int ?_
  | with_reducible refine o_bool ?_
  | with_reducible refine o_mul (by first | exact mulR ⟨by decide, by decide⟩ | exact mulL ⟨by decide, by decide⟩) ?_
  | with_reducible refine o_mul ?_ ?_
  | with_reducible refine o_mod (by decide) ?_
  | with_reducible refine o_mod ?_ ?_
  | with_reducible refine o_div (by decide) (by decide +kernel) ?_
  | with_reducible refine o_cat ?_ ?_
  | with_reducible refine o_catT ?_ ?_
  | ((with_reducible show Op2 _ (rIxL _) (Ent.ref _) _ _ _); refine o_ixM (List.Mem.head _) rfl ?_)
  | with_reducible refine o_eqI ?_
  | with_reducible refine o_neI ?_
  | with_reducible refine o_eqS ?_
  | with_reducible refine o_neS ?_
  | with_reducible refine o_neg ?_
  | ((with_reducible show Op2 _ (rIxT _) _ _ _ _); refine o_ixT rfl ?_)
  | ((with_reducible show Op2 _ (rIxL _) (Ent.dat _) _ _ _); refine o_ixL rfl ?_)
  | ((with_reducible show Op2 _ (rI CPow _) _ _ _ _); refine o_pow ⟨by decide, by decide, by decide⟩ rfl ?_)
  | with_reducible refine c_abs ?_
  | with_reducible refine c_int ?_
  | with_reducible refine c_min2 ?_
  | with_reducible refine c_max2 ?_
  | with_reducible refine c_gcd ?_
  | with_reducible refine sl_L ?_
  | with_reducible refine c_len (.lst _) ?_
  | with_reducible refine c_len (.tup _) ?_)
local macro_rules | `(tactic| walk_at "yx") => `(tactic| first
  | with_reducible refine ⟨_, rfl, ?_⟩
  | with_reducible refine ⟨_, _, rfl, ?_⟩
  | with_reducible refine ⟨fun _ => ?_, fun _ => ?_⟩
  | ((with_reducible show ∃ _ _ _ _ _ _, _ = _ ∧ _ = _ ∧ _ = _ ∧ _ = _ ∧ _); refine ⟨[], _, _, _, _, _, rfl, rfl, rfl, rfl, ?_⟩)
  | ((with_reducible show ∃ _ _ _ _ _, _ = _ ∧ _ = _ ∧ _ ∧ _ ∧ _ ∧ _ = _ ∧ _ = _ ∧ _); refine ⟨_, _, _, _, _, rfl, rfl, List.Mem.head _, by decide, by decide, rfl, rfl, ?_⟩)
  | ((with_reducible show ∃ _ _ _, _ = _ ∧ _ = _ ∧ _); refine ⟨[], _, _, rfl, rfl, ?_⟩)
  | ((with_reducible show ∃ _, Ds _ _ ∧ _ ∧ _); refine ⟨_, (by repeat (first | exact Ds.nil | apply Ds.cons)), (by simp), ?_⟩))
local macro_rules | `(tactic| walk_at "yy") => `(tactic| first | walk_at "ye" | walk_at "ya" | walk_at "ys" | walk_at "yo" | walk_at "yx" | walk_at "yc")

local macro_rules | `(tactic| walk_at "yc") => `(tactic| first | with_reducible refine c_sumA (.tup _) ?_ | with_reducible refine c_reduced ?_ ?_ ?_ ?_ | with_reducible refine c_compared ?_ ?_ ?_ | with_reducible refine c_whole ?_ | with_reducible refine c_negated ?_ | with_reducible refine c_added ?_ ?_ ?_ | with_reducible refine c_lessened ?_ ?_ ?_ | with_reducible refine c_cells ?_ ?_ | with_reducible refine c_mirrored ?_ | with_reducible refine ev_revT ?_)
section
variable {P : Program} {w : World} {K : PySem.W.Frag} {mg : Str → Option Value} {base : Heap}
theorem ok_negated (T : Stands K mg "negated" s_negated ["one"]) : Has P w K mg base 1 "negated" ["one"] (spNeg K) := by
  refine hasP T sc_negated (fun ds ⟨a, b, e⟩ => by rw [e]; rfl) 0 rfl fun f cdv A outer s H E g hr => ⟨_, (pss_one (ps_ret (pe_tup (pa_cons (pe_un un_neg (pe_ix ix_tup (pv 0) pe_int (fun _ _ => rfl))) (pa_cons (pe_ix ix_tup (pv 0) pe_int (fun _ _ => rfl)) pa_nil))))), ?_⟩
  try dsimp only [cxOf]
  rintro ds ⟨a, b, rfl⟩
  repeat' walk_at "yy"
  intro c d h
  cases h
  rfl

theorem ok_added (B : Bt mg) (T : Stands K mg "added" s_added ["one", "other"]) : Has P w K mg base 1 "added" ["one", "other"] (spAdd K) := by
  refine hasP T sc_added (fun ds ⟨a, b, c, d, e, _⟩ => by rw [e]; rfl) 4 rfl fun f cdv A outer s H E g hr => ⟨_, (pss_cons (ps_set (i := 2) sc_added.nd rfl (by first | exact .inl rfl | exact .inr rfl) (pe_callBfun cr_gcd (by rfl) B.m_gcd (pa_cons (pe_ix ix_tup (pv 0) pe_int (fun _ _ => rfl)) (pa_cons (pe_ix ix_tup (pv 1) pe_int (fun _ _ => rfl)) pa_nil))))
      (pss_cons (ps_set (i := 3) sc_added.nd rfl (by first | exact .inl rfl | exact .inr rfl) (pe_op op_divA (pe_ix ix_tup (pv 1) pe_int (fun _ _ => rfl)) (pv 2)))
      (pss_cons (ps_set (i := 4) sc_added.nd rfl (by first | exact .inl rfl | exact .inr rfl) (pe_op op_add (pe_op op_mulA (pe_ix ix_tup (pv 0) pe_int (fun _ _ => rfl)) (pv 3)) (pe_op op_mulA (pe_ix ix_tup (pv 1) pe_int (fun _ _ => rfl)) (pe_op op_divA (pe_ix ix_tup (pv 0) pe_int (fun _ _ => rfl)) (pv 2)))))
      (pss_cons (ps_set (i := 5) sc_added.nd rfl (by first | exact .inl rfl | exact .inr rfl) (pe_callBfun cr_gcd (by rfl) B.m_gcd (pa_cons (pv 4) (pa_cons (pv 2) pa_nil))))
      (pss_one (ps_ret (pe_tup (pa_cons (pe_op op_divA (pv 4) (pv 5)) (pa_cons (pe_op op_mulA (pe_op op_divA (pe_ix ix_tup (pv 0) pe_int (fun _ _ => rfl)) (pv 5)) (pv 3)) pa_nil))))))))), ?_⟩
  try dsimp only [cxOf]
  rintro ds ⟨a, b, c, d, rfl, h1, h2⟩
  have gp : 0 < ((Nat.gcd b.natAbs d.natAbs : Nat) : Int) := by
    have := gcd_pos (n := b) (d := d) h2.ne
    have e : Int.gcd b d = Nat.gcd b.natAbs d.natAbs := rfl
    omega
  have gb : Bd 2000 ((Nat.gcd b.natAbs d.natAbs : Nat) : Int) := h2.d.le (by
    have := Nat.le_of_dvd (Int.natAbs_pos.mpr h2.ne) (Nat.gcd_dvd_right b.natAbs d.natAbs)
    omega)
  generalize hg : ((Nat.gcd b.natAbs d.natAbs : Nat) : Int) = G at gp gb
  repeat' walk_at "yy"
  try rw [hg]
  refine o_div gp (gb.div (by decide) (by decide)) ?_
  repeat' walk_at "yy"
  · exact (h1.n.ok (part_bd (g := G) h2.d) (by decide) (by decide) (by decide))
  repeat' walk_at "yy"
  try rw [hg]
  refine o_div gp (gb.div (by decide) (by decide)) ?_
  repeat' walk_at "yy"
  · exact (h2.n.ok (part_bd (g := G) h1.d) (by decide) (by decide) (by decide))
  repeat' walk_at "yy"
  try rw [hg]
  generalize hn : a * (d / G) + c * (b / G) = n
  have tp : 0 < ((Nat.gcd n.natAbs G.natAbs : Nat) : Int) := by
    have := gcd_pos (n := n) (d := G) (by omega)
    have e : Int.gcd n G = Nat.gcd n.natAbs G.natAbs := rfl
    omega
  have tb : Bd 2000 ((Nat.gcd n.natAbs G.natAbs : Nat) : Int) := gb.le (by
    have := Nat.le_of_dvd (Int.natAbs_pos.mpr (by omega)) (Nat.gcd_dvd_right n.natAbs G.natAbs)
    omega)
  have key := add_short (g := G) (n := n) (t := ((Nat.gcd n.natAbs G.natAbs : Nat) : Int)) h1.fr h2.fr hg.symm hn.symm rfl
  generalize ((Nat.gcd n.natAbs G.natAbs : Nat) : Int) = t at tp tb key
  refine o_div tp (tb.div (by decide) (by decide)) ?_
  repeat' walk_at "yy"
  refine o_div tp (tb.div (by decide) (by decide)) ?_
  repeat' walk_at "yy"
  · exact ((part_bd (g := t) h1.d).ok (part_bd (g := G) h2.d) (by decide) (by decide) (by decide))
  repeat' walk_at "yy"
  intro a' b' c' d' h
  cases h
  have u := red_uniq key.1 (Int.mul_ne_zero h1.ne h2.ne) key.2
  rw [u.1, u.2]

theorem ok_compared (T : Stands K mg "compared" s_compared ["one", "other"]) : Has P w K mg base 1 "compared" ["one", "other"] (spCmp K) := by
  refine hasP T sc_compared (fun ds ⟨a, b, c, d, e, _⟩ => by rw [e]; rfl) 2 rfl fun f cdv A outer s H E g hr => ⟨_, (pss_cons (ps_par (i := 2) (j := 3) (by rfl) sc_compared.nd rfl rfl (by decide) rfl rfl (pa_cons (pe_op op_mulA (pe_ix ix_tup (pv 0) pe_int (fun _ _ => rfl)) (pe_ix ix_tup (pv 1) pe_int (fun _ _ => rfl))) (pa_cons (pe_op op_mulA (pe_ix ix_tup (pv 1) pe_int (fun _ _ => rfl)) (pe_ix ix_tup (pv 0) pe_int (fun _ _ => rfl))) pa_nil)) (by rfl))
      (pss_cons (ps_if (pt_cmpR op_eq (pv 2) (pv 3) (nomark _)) (pss_one (ps_ret pe_int)) pss_nil)
      (pss_one (ps_ret (pe_ifExp (pt_cmpR op_lt (pv 2) (pv 3) (nomark _)) (pe_un un_neg pe_int) pe_int))))), ?_⟩
  try dsimp only [cxOf]
  rintro ds ⟨a, b, c, d, rfl, h1, h2⟩
  repeat' walk_at "yy"
  · exact mk2 h1.n h2.d
  · exact mk2 h2.n h1.d
  repeat' walk_at "yy"
  all_goals
    intro a' b' c' d' h
    cases h
    unfold cmp3
    simp_all

theorem ok_cells_of (B : Bt mg) (T : Stands K mg "cells_of" s_cells_of ["row"]) : Has P w K mg base 1 "cells_of" ["row"] (SpQ K rCells) := by
  refine hasQ T sc_cells_of (fun ds po ⟨ns, e, _⟩ => by rw [e]; rfl) 2 rfl fun f cdv A outer s H E g hr => ⟨_, (pss_cons (ps_set (i := 1) sc_cells_of.nd rfl (by first | exact .inl rfl | exact .inr rfl) (pe_lst (pa_cons pe_int pa_nil)))
      (pss_cons (ps_for PassesOwn.never rfl (pi_tup (pv 0)) (pg_name (i := 2) sc_cells_of.nd rfl (by first | exact .inl rfl | exact .inr rfl)) (pss_one (ps_expr (pe_bm PySem.F.plainAttrs_list PySem.F.slot_list_append PySem.F.type_list_append mt_append (pv 1) (pa_cons (pe_op op_add (pe_ix ix_list (pv 1) (pe_un un_neg pe_int) (fun _ _ => rfl)) (pv 2)) pa_nil)))))
      (pss_one (ps_ret (pe_callTy call_tuple_of (by rfl) B.b_tuple (by decide +kernel) (pa_cons (pv 1) pa_nil)))))), ?_⟩
  try dsimp only [cxOf]
  rintro ds po ⟨ns, rfl, hl, rfl⟩
  repeat' walk_at "yy"
  intro p hp
  repeat' walk_at "yy"
  refine sj_for ?_
  repeat' walk_at "yy"
  refine ⟨fun k es M => ∃ e, es = [.dat (rowD ns), .ref p, e] ∧ M = [(p, .lst ((sums 0 (ns.take k)).map PyData.int))], ⟨.no, rfl, rfl⟩, ?_, ?_⟩
  · rintro k d es M hd ⟨e, rfl, rfl⟩
    obtain ⟨i, hk, rfl⟩ := ints_at hd
    have hkl := (List.getElem?_eq_some_iff.mp hk).1
    obtain ⟨ini, hi⟩ := sums_last 0 (ns.take k)
    have a1 : atI ((sums 0 (ns.take k)).map PyData.int) (-1) = some (.int (0 + (ns.take k).sum)) := by
      rw [hi, List.map_append]
      exact atI_last _ _
    repeat' (first | refine o_ixM (List.Mem.head _) a1 ?_ | walk_at "yy")
    refine ⟨ty_ref (List.Mem.head _), ?_⟩
    repeat' (first | refine o_ixM (List.Mem.head _) a1 ?_ | walk_at "yy")
    refine m_append (Ma := []) (Mb := []) rfl (by rw [List.length_map, sums_len, List.length_take]; omega) ?_
    refine ⟨.dat (.int i), rfl, ?_⟩
    rw [take_snoc hk, sums_snoc, List.map_append]
    rfl
  · rintro es M ⟨e, rfl, rfl⟩
    rw [List.length_map, List.take_length]
    refine sj_fast [] [] rfl hp (.keep (.hit (.keep .nil))) ?_
    repeat' walk_at "yy"
    refine c_tuple (.lst _) ?_
    repeat' walk_at "yy"
    rfl

end
end K34

set_option Elab.async false
set_option linter.all false
set_option maxRecDepth 100000
set_option maxHeartbeats 1000000
set_option exponentiation.threshold 20000
namespace K34
open PySem PySem.Spec PyProof.Rows L2 Yw
local macro_rules | `(tactic| walk_at "ye") => `(tactic| first
  | ((with_reducible show Ev _ (tVar _) _ _ _); first | refine ev_dat rfl ?_ | refine ev_ref rfl ?_ | refine ev_var rfl (fun z => nomatch z) ?_)
  | ((with_reducible show Ev _ (tC _) _ _ _); first | with_reducible refine ev_int ?_ | with_reducible refine ev_bl ?_ | with_reducible refine ev_non ?_ | with_reducible refine ev_str ?_ | with_reducible refine ev_ty ?_)
  | with_reducible refine ev_op ?_
  | with_reducible refine ev_un ?_
  | with_reducible refine ev_go ?_
  | with_reducible refine ev_cb ?_
  | with_reducible refine ev_tupD ?_
  | with_reducible refine ev_lstD ?_
  | with_reducible refine ev_chain ?_
  | with_reducible refine ev_if ?_
  | with_reducible refine ev_andV ?_
  | with_reducible refine ev_orV ?_
  | with_reducible refine ev_notV ?_
  | with_reducible refine ev_sl ?_
  | with_reducible refine ev_bm ?_)
local macro_rules | `(tactic| walk_at "ya") => `(tactic| first
  | with_reducible refine ea_cons ?_
  | with_reducible refine ea_nil ?_
  | with_reducible refine eo_none ?_
  | with_reducible refine eo_some ?_
  | with_reducible refine et_test ?_
  | with_reducible refine et_B ?_
  | with_reducible refine et_and ?_
  | with_reducible refine et_or ?_
  | with_reducible refine et_not ?_
  | with_reducible refine et_yes ?_
  | with_reducible refine tg_name ?_
  | with_reducible refine tgs_nil ?_
  | with_reducible refine tgs_cons ?_
  | ((with_reducible show Tg _ (gTup _ _ _) _ _ _ _); refine tg_tup rfl ?_)
  | with_reducible refine tg_sub ?_)
local macro_rules | `(tactic| walk_at "ys") => `(tactic| first
  | with_reducible refine sj_seq ?_
  | with_reducible refine sj_next ?_
  | with_reducible refine sj_newD ?_
  | with_reducible refine sj_set ?_
  | with_reducible refine sj_par ?_
  | with_reducible refine sj_ret ?_
  | with_reducible refine sj_drop ?_
  | with_reducible refine sj_if ?_
  | with_reducible refine sj_asg ?_
  | with_reducible refine sj_augS ?_
  | with_reducible refine iw_seq ?_
  | with_reducible refine iw_zip ?_
  | with_reducible refine iw_list ?_
  | with_reducible refine iw_tup ?_
  | with_reducible refine iw_r1 ?_
  | with_reducible refine iw_r2 ?_
  | with_reducible refine iw_enumT ?_)
local macro_rules | `(tactic| walk_at "yo") => `(tactic| first
  | with_reducible refine o_int ?_
  | with_reducible refine o_bool ?_
  | with_reducible refine o_mul (by first | exact mulR ⟨by decide, by decide⟩ | exact mulL ⟨by decide, by decide⟩) ?_
  | with_reducible refine o_mul ?_ ?_
  | with_reducible refine o_mod (by decide) ?_
  | with_reducible refine o_mod ?_ ?_
  | with_reducible refine o_div (by decide) (by decide +kernel) ?_
  | with_reducible refine o_cat ?_ ?_
  | with_reducible refine o_catT ?_ ?_
  | ((with_reducible show Op2 _ (rIxL _) (Ent.ref _) _ _ _); refine o_ixM (List.Mem.head _) rfl ?_)
  | with_reducible refine o_eqI ?_
  | with_reducible refine o_neI ?_
  | with_reducible refine o_eqS ?_
  | with_reducible refine o_neS ?_
  | with_reducible refine o_neg ?_
  | ((with_reducible show Op2 _ (rIxT _) _ _ _ _); refine o_ixT rfl ?_)
  | ((with_reducible show Op2 _ (rIxL _) (Ent.dat _) _ _ _); refine o_ixL rfl ?_)
  | ((with_reducible show Op2 _ (rI CPow _) _ _ _ _); refine o_pow ⟨by decide, by decide, by decide⟩ rfl ?_)
  | with_reducible refine c_abs ?_
  | with_reducible refine c_int ?_
  | with_reducible refine c_min2 ?_
  | with_reducible refine c_max2 ?_
  | with_reducible refine c_gcd ?_
  | with_reducible refine sl_L ?_
  | with_reducible refine c_len (.lst _) ?_
  | with_reducible refine c_len (.tup _) ?_)
local macro_rules | `(tactic| walk_at "yx") => `(tactic| first
  | with_reducible refine ⟨_, rfl, ?_⟩
  | with_reducible refine ⟨_, _, rfl, ?_⟩
  | with_reducible refine ⟨fun _ => ?_, fun _ => ?_⟩
  | ((with_reducible show ∃ _ _ _ _ _ _, _ = _ ∧ _ = _ ∧ _ = _ ∧ _ = _ ∧ _); refine ⟨[], _, _, _, _, _, rfl, rfl, rfl, rfl, ?_⟩)
  | ((with_reducible show ∃ _ _ _ _ _, _ = _ ∧ _ = _ ∧ _ ∧ _ ∧ _ ∧ _ = _ ∧ _ = _ ∧ _); refine ⟨_, _, _, _, _, rfl, rfl, List.Mem.head _, by decide, by decide, rfl, rfl, ?_⟩)
  | ((with_reducible show ∃ _ _ _, _ = _ ∧ _ = _ ∧ _); refine ⟨[], _, _, rfl, rfl, ?_⟩)
  | ((with_reducible show ∃ _, Ds _ _ ∧ _ ∧ _); refine ⟨_, (by repeat (first | exact Ds.nil | apply Ds.cons)), (by simp), ?_⟩))
local macro_rules | `(tactic| walk_at "yy") => `(tactic| first | walk_at "ye" | walk_at "ya" | walk_at "ys" | walk_at "yo" | walk_at "yx" | walk_at "yc")

section
variable {P : Program} {w : World} {K : PySem.W.Frag} {mg : Str → Option Value} {base : Heap}
theorem ok_bag (B : Bt mg) (T : Stands K mg "_law_bag" s_l_bag ["script"]) : Has P w K mg base 1 "_law_bag" ["script"] (SpN K) := by
  refine hasN T sc_l_bag 1 rfl fun f cdv A outer s H E g hr => ⟨_, (pss_one (ps_ret (pe_lst (pa_cons pe_int (pa_cons pe_int (pa_cons pe_int (pa_cons (pe_lc (own := [("cell", 1)]) (g := gName 1) (tt := tYes) rfl sc_l_bag.nd (pi_list (pe_slice sl_list (pv 0) po_none (po_some pe_int))) (blkOk_by (N := N_l_bag) (sc := defScope s_l_bag) (by decide +kernel)) (fun _ _ _ _ _ => (pg_name (i := 1) sc_l_bag.nd rfl (by first | exact .inl rfl | exact .inr rfl))) (fun _ _ _ _ _ => pts_nil) (fun _ _ _ _ _ => (pe_callB call_abs (by rfl) B.b_abs (by decide +kernel) (pa_cons (pv 1) pa_nil)))) pa_nil))))))), ?_⟩
  try dsimp only [cxOf]
  intro ns hn
  repeat' walk_at "yy"
  refine ev_lc (own_name (by decide)) ?_
  repeat' walk_at "yy"
  refine sl_scr fun ms hm => ?_
  repeat' walk_at "yy"
  refine ⟨fun k acc M => acc = (ms.take k).map fun i => PyData.int (i.natAbs : Int), by simp, fun k d acc M hd e => ?_, fun acc M e => ?_⟩
  · rw [List.getElem?_map] at hd
    obtain ⟨i, hi, rfl⟩ : ∃ i, ms[k]? = some i ∧ PyData.int i = d := by
      cases z : ms[k]? with
      | none => rw [z] at hd; cases hd
      | some p => rw [z] at hd; exact ⟨p, rfl, Option.some.inj hd⟩
    have hk := (List.getElem?_eq_some_iff.mp hi).1
    refine ⟨by rw [e, List.length_map, List.length_take]; omega, ?_⟩
    repeat' walk_at "yy"
    · show _ = _
      have ep : ms[k] = i := by rw [List.getElem?_eq_getElem hk] at hi; exact Option.some.inj hi
      rw [e, List.take_succ_eq_append_getElem hk, List.map_append, ep, abs_if]
      rfl
    · simp_all
  · rw [List.length_map, List.take_length] at e
    subst e
    repeat' walk_at "yy"
    refine ⟨⟨0, 1234567891, 0, ms.map fun i => (i.natAbs : Int), by rw [List.length_map]; omega⟩, ?_⟩
    unfold Bag.ds
    rw [List.map_map]
    rfl

theorem ok_take (B : Bt mg) (T : Stands K mg "_law_take" s_l_take ["bag", "many"]) : Has P w K mg base 1 "_law_take" ["bag", "many"] (SpD K rTake) := by
  refine hasD T sc_l_take (fun ds po ⟨n, e, _⟩ => by rw [e]; rfl) 5 rfl fun f cdv A outer s H E g hr => ⟨_, (pss_cons (ps_if (pt_cmpR op_eq (pe_ix ix_list (pv 0) pe_int (fun _ _ => rfl)) pe_int (nomark _)) (pss_cons (ps_set (i := 2) sc_l_take.nd rfl (by first | exact .inl rfl | exact .inr rfl) (pe_ix ix_list (pe_op op_cat (pe_slice sl_list (pe_ix ix_list (pv 0) pe_int (fun _ _ => rfl)) (po_some (pe_ix ix_list (pv 0) pe_int (fun _ _ => rfl))) po_none) (pe_lst (pa_cons pe_int pa_nil))) pe_int (fun _ _ => rfl)))
      (pss_cons (ps_augS (pv 0) pe_int pget_list pe_int ip_add set_list)
      (pss_cons (ps_if (pt_cmpR op_ge (pv 2) (pe_op op_pow pe_int pe_int) (nomark _)) (pss_one (ps_asg (pv 2) (pg_sub (pv 0) pe_int set_list))) pss_nil)
      (pss_cons (ps_set (i := 3) sc_l_take.nd rfl (by first | exact .inl rfl | exact .inr rfl) (pe_op op_add (pe_op op_add (pe_op op_mulA (pe_ix ix_list (pv 0) pe_int (fun _ _ => rfl)) pe_int) (pe_op op_mod (pe_callTy call_int1 (by rfl) B.b_int (by decide +kernel) (pa_cons (pv 2) pa_nil)) pe_int)) (pe_op op_mulA pe_int (pe_ix ix_list (pv 0) pe_int (fun _ _ => rfl)))))
      (pss_one (ps_asg (pe_op op_mod (pe_callTy call_int1 (by rfl) B.b_int (by decide +kernel) (pa_cons (pv 3) pa_nil)) pe_int) (pg_sub (pv 0) pe_int set_list))))))) pss_nil)
      (pss_cons (ps_if (pt_cmpR op_gt (pe_ix ix_list (pv 0) pe_int (fun _ _ => rfl)) pe_int (nomark _)) (pss_cons (ps_set (i := 4) sc_l_take.nd rfl (by first | exact .inl rfl | exact .inr rfl) (pe_op op_mod (pe_callTy call_int1 (by rfl) B.b_int (by decide +kernel) (pa_cons (pe_ix ix_list (pv 0) pe_int (fun _ _ => rfl)) pa_nil)) (pv 1)))
      (pss_cons (ps_asg (pe_op op_divA (pe_callTy call_int1 (by rfl) B.b_int (by decide +kernel) (pa_cons (pe_ix ix_list (pv 0) pe_int (fun _ _ => rfl)) pa_nil)) (pv 1)) (pg_sub (pv 0) pe_int set_list))
      (pss_one (ps_ret (pv 4))))) pss_nil)
      (pss_cons (ps_set (i := 5) sc_l_take.nd rfl (by first | exact .inl rfl | exact .inr rfl) (pe_op op_mod (pe_callTy call_int1 (by rfl) B.b_int (by decide +kernel) (pa_cons (pe_op op_mulA (pe_op op_add (pe_ix ix_list (pv 0) pe_int (fun _ _ => rfl)) pe_int) pe_int) pa_nil)) pe_int))
      (pss_cons (ps_set (i := 6) sc_l_take.nd rfl (by first | exact .inl rfl | exact .inr rfl) (pe_op op_mod (pe_callTy call_int1 (by rfl) B.b_int (by decide +kernel) (pa_cons (pe_op op_mulA (pe_op op_mod (pe_callTy call_int1 (by rfl) B.b_int (by decide +kernel) (pa_cons (pe_op op_mulA (pv 5) (pv 5)) pa_nil)) pe_int) pe_int) pa_nil)) pe_int))
      (pss_one (ps_ret (pe_op op_mod (pe_callTy call_int1 (by rfl) B.b_int (by decide +kernel) (pa_cons (pe_op op_divA (pv 6) pe_int) pa_nil)) (pv 1)))))))), ?_⟩
  try dsimp only [cxOf]
  rintro b C ds po ⟨many, rfl, h0, hb, rfl⟩
  have hd : many.natAbs.log2 < 9000 := hb.div (by decide) (by decide)
  obtain ⟨ys, ey, ly⟩ := cutD_ints (xs := C.cs) (lo := some C.k) (hi := none)
  obtain ⟨fi, ef⟩ := first_int (ys := ys)
  have ok := C.ok
  have sm : ∀ x : Int, IntMulOk (x % 1000000007) (x % 1000000007) := fun x => mulL (by omega)
  repeat' walk_at "yy"
  · rw [ey, List.length_map]
    simp
    omega
  · rw [ey]
    refine o_ixL ef ?_
    repeat' (first | exact h0 | exact sm _ | refine o_div h0 hd ?_ | walk_at "yy" | exact ⟨⟨⟨_, _, _, C.cs, ok⟩, [], rfl⟩, _, rfl, Int.emod_nonneg _ (by omega), Int.emod_lt_of_pos _ h0⟩)
    all_goals (refine ⟨⟨⟨C.c, _, C.k + 1, C.cs, ok⟩, [], rfl⟩, ?_⟩)
    all_goals exact ⟨_, rfl, Int.emod_nonneg _ (by omega), Int.emod_lt_of_pos _ h0⟩
  all_goals repeat' (first | exact h0 | exact sm _ | refine o_div h0 hd ?_ | walk_at "yy" | exact ⟨⟨⟨_, _, _, C.cs, ok⟩, [], rfl⟩, _, rfl, Int.emod_nonneg _ (by omega), Int.emod_lt_of_pos _ h0⟩)

theorem ok_l_some (B : Bt mg) (D_l_take : Has P w K mg base 1 "_law_take" ["bag", "many"] (SpD K rTake)) (T : Stands K mg "_law_some" s_l_some ["bag", "things"]) : Has P w K mg base 2 "_law_some" ["bag", "things"] (SpD K rSome) := by
  refine hasD T sc_l_some (fun ds po ⟨d0, n, e, _⟩ => by rw [e]; rfl) 0 rfl fun f cdv A outer s H E g hr => ⟨_, (pss_one (ps_ret (pe_ix ix_seq (pv 1) (peD D_l_take g hr (by first | decide | exact Nat.le_refl _ | omega) (by rfl) (pa_cons (pv 0) (pa_cons (pe_callB call_len_seq (by rfl) B.b_len (by decide +kernel) (pa_cons (pv 1) pa_nil)) pa_nil))) (fun _ _ => rfl)))), ?_⟩
  try dsimp only [cxOf]
  rintro b C ds po ⟨d0, things, rfl, hs, hn, hl, rfl⟩
  repeat' (first | refine c_len hs ?_ | walk_at "yy")
  refine c_take ?_ ?_ fun v C1 h0 h1 => ?_
  · have := List.length_pos_iff.mpr hn
    omega
  · exact Bd.up (j := 20) (by show _ < _; omega) (by decide)
  · obtain ⟨d, e, hd⟩ := at_some h0 h1
    refine o_ixS hs e ?_
    repeat' walk_at "yy"
    exact ⟨⟨C1, [], rfl⟩, hd⟩
theorem ok_alike (B : Bt mg) (T : Stands K mg "_law_alike" s_l_alike ["found", "due"]) : Has P w K mg base 1 "_law_alike" ["found", "due"] (SpQ K rAlike) := by
  refine hasQ T sc_l_alike (fun ds po ⟨d, e, _⟩ => by rw [e]; rfl) 0 rfl fun f cdv A outer s H E g hr => ⟨_, (pss_one (ps_ret (pe_and (pe_cmpR (op_eqD hr.units) (pv 0) (pv 1) (nomark _)) (pe_one (pe_cmpR op_eq (pe_callB (call_show g (room66 hr)) (by rfl) B.b_repr (by decide +kernel) (pa_cons (pv 0) pa_nil)) (pe_callB (call_show g (room66 hr)) (by rfl) B.b_repr (by decide +kernel) (pa_cons (pv 1) pa_nil)) (nomark _)))))), ?_⟩
  try dsimp only [cxOf]
  rintro ds po ⟨d, rfl, hd, rfl⟩
  have hs := hd.shaped (by decide)
  have hz := size_ok hd.len (by decide)
  repeat' walk_at "yy"
  refine o_eqD hs hs ?_
  rw [eqv_self hd]
  repeat' walk_at "yy"
  refine c_show hs hd.sho hz ?_
  repeat' walk_at "yy"
  refine c_show hs hd.sho hz ?_
  repeat' walk_at "yy"
  · simp
  · simp_all

end
end K34

set_option Elab.async false
set_option linter.all false
set_option maxRecDepth 100000
set_option maxHeartbeats 1000000
set_option exponentiation.threshold 20000
namespace K34
open PySem PySem.Spec PyProof.Rows L2 Yw
local macro_rules | `(tactic| walk_at "ye") => `(tactic| first
  | ((with_reducible show Ev _ (tVar _) _ _ _); first | refine ev_dat rfl ?_ | refine ev_ref rfl ?_ | refine ev_var rfl (fun z => nomatch z) ?_)
  | ((with_reducible show Ev _ (tC _) _ _ _); first | with_reducible refine ev_int ?_ | with_reducible refine ev_bl ?_ | with_reducible refine ev_non ?_ | with_reducible refine ev_str ?_ | with_reducible refine ev_ty ?_)
  | with_reducible refine ev_op ?_
  | with_reducible refine ev_un ?_
  | with_reducible refine ev_go ?_
  | with_reducible refine ev_cb ?_
  | with_reducible refine ev_tupD ?_
  | with_reducible refine ev_lstD ?_
  | with_reducible refine ev_chain ?_
  | with_reducible refine ev_if ?_
  | with_reducible refine ev_andV ?_
  | with_reducible refine ev_orV ?_
  | with_reducible refine ev_notV ?_
  | with_reducible refine ev_sl ?_
  | with_reducible refine ev_bm ?_)
local macro_rules | `(tactic| walk_at "ya") => `(tactic| first
  | with_reducible refine ea_cons ?_
  | with_reducible refine ea_nil ?_
  | with_reducible refine eo_none ?_
  | with_reducible refine eo_some ?_
  | with_reducible refine et_test ?_
  | with_reducible refine et_B ?_
  | with_reducible refine et_and ?_
  | with_reducible refine et_or ?_
  | with_reducible refine et_not ?_
  | with_reducible refine et_yes ?_
  | with_reducible refine tg_name ?_
  | with_reducible refine tgs_nil ?_
  | with_reducible refine tgs_cons ?_
  | ((with_reducible show Tg _ (gTup _ _ _) _ _ _ _); refine tg_tup rfl ?_)
  | with_reducible refine tg_sub ?_)
local macro_rules | `(tactic| walk_at "ys") => `(tactic| first
  | with_reducible refine sj_seq ?_
  | with_reducible refine sj_next ?_
  | with_reducible refine sj_newD ?_
  | with_reducible refine sj_set ?_
  | with_reducible refine sj_par ?_
  | with_reducible refine sj_ret ?_
  | with_reducible refine sj_drop ?_
  | with_reducible refine sj_if ?_
  | with_reducible refine sj_asg ?_
  | with_reducible refine sj_augS ?_
  | with_reducible refine iw_seq ?_
  | with_reducible refine iw_zip ?_
  | with_reducible refine iw_list ?_
  | with_reducible refine iw_tup ?_
  | with_reducible refine iw_r1 ?_
  | with_reducible refine iw_r2 ?_
  | with_reducible refine iw_enumT ?_)
local macro_rules | `(tactic| walk_at "yo") => `(tactic| first
  | with_reducible refine o_int ?_
  | with_reducible refine o_bool ?_
  | with_reducible refine o_mul (by first | exact mulR ⟨by decide, by decide⟩ | exact mulL ⟨by decide, by decide⟩) ?_
  | with_reducible refine o_mul ?_ ?_
  | with_reducible refine o_mod (by decide) ?_
  | with_reducible refine o_mod ?_ ?_
  | with_reducible refine o_div (by decide) (by decide +kernel) ?_
  | with_reducible refine o_cat ?_ ?_
  | with_reducible refine o_catT ?_ ?_
  | ((with_reducible show Op2 _ (rIxL _) (Ent.ref _) _ _ _); refine o_ixM (List.Mem.head _) rfl ?_)
  | with_reducible refine o_eqI ?_
  | with_reducible refine o_neI ?_
  | with_reducible refine o_eqS ?_
  | with_reducible refine o_neS ?_
  | with_reducible refine o_neg ?_
  | ((with_reducible show Op2 _ (rIxT _) _ _ _ _); refine o_ixT rfl ?_)
  | ((with_reducible show Op2 _ (rIxL _) (Ent.dat _) _ _ _); refine o_ixL rfl ?_)
  | ((with_reducible show Op2 _ (rI CPow _) _ _ _ _); refine o_pow ⟨by decide, by decide, by decide⟩ rfl ?_)
  | with_reducible refine c_abs ?_
  | with_reducible refine c_int ?_
  | with_reducible refine c_min2 ?_
  | with_reducible refine c_max2 ?_
  | with_reducible refine c_gcd ?_
  | with_reducible refine sl_L ?_
  | with_reducible refine c_len (.lst _) ?_
  | with_reducible refine c_len (.tup _) ?_)
local macro_rules | `(tactic| walk_at "yx") => `(tactic| first
  | with_reducible refine ⟨_, rfl, ?_⟩
  | with_reducible refine ⟨_, _, rfl, ?_⟩
  | with_reducible refine ⟨fun _ => ?_, fun _ => ?_⟩
  | ((with_reducible show ∃ _ _ _ _ _ _, _ = _ ∧ _ = _ ∧ _ = _ ∧ _ = _ ∧ _); refine ⟨[], _, _, _, _, _, rfl, rfl, rfl, rfl, ?_⟩)
  | ((with_reducible show ∃ _ _ _ _ _, _ = _ ∧ _ = _ ∧ _ ∧ _ ∧ _ ∧ _ = _ ∧ _ = _ ∧ _); refine ⟨_, _, _, _, _, rfl, rfl, List.Mem.head _, by decide, by decide, rfl, rfl, ?_⟩)
  | ((with_reducible show ∃ _ _ _, _ = _ ∧ _ = _ ∧ _); refine ⟨[], _, _, rfl, rfl, ?_⟩)
  | ((with_reducible show ∃ _, Ds _ _ ∧ _ ∧ _); refine ⟨_, (by repeat (first | exact Ds.nil | apply Ds.cons)), (by simp), ?_⟩))
local macro_rules | `(tactic| walk_at "yy") => `(tactic| first | walk_at "ye" | walk_at "ya" | walk_at "ys" | walk_at "yo" | walk_at "yx" | walk_at "yc")

local macro_rules | `(tactic| walk_at "yc") => `(tactic| first | with_reducible refine c_reduced ?_ ?_ ?_ ?_ | with_reducible refine c_whole ?_)
/-- bounds: drift and shift as pairs -/
structure Bq (D S : Int × Int) (lo most le : Nat) : Prop where
  d : FqQ 40 D
  s : FqQ 40 S
  d0 : 0 ≤ D.1
  s0 : 0 ≤ S.1
  l1 : 1 ≤ lo
  l2 : lo ≤ most
  l3 : most ≤ 16
  e1 : 1 ≤ le
  e8 : le ≤ 2 ^ 70
  n : 4 * S.1 * D.2 < 2 ^ 60
abbrev bdQ (c : Int) (D S : Int × Int) (lo most le : Nat) : PyData := .tuple [.int c, frq D, frq S, .int (lo : Int), .int (most : Int), .int (le : Int)]
theorem bd_t {t : Int} (h0 : 0 ≤ t) (h1 : t < 2 ^ 76) : Bd 76 t := by
  show t.natAbs < 2 ^ 76
  omega
theorem phD_pos {D S : Int × Int} {lo most le : Nat} (h : Bq D S lo most le) {t : Int} (ht : 1 ≤ t) : 0 < phD D S t := Int.mul_pos (Int.mul_pos h.d.fr.1 h.s.fr.1) (by omega)
theorem phN_bd {D S : Int × Int} {lo most le : Nat} (h : Bq D S lo most le) {t : Int} (ht : 1 ≤ t) (h2 : t < 2 ^ 76) : Bd 250 (phN D S t) := by
  have a : Bd 83 (4 * S.1 * D.2) := ((Bd.mul (j := 3) (by show _ < _; decide) h.s.n).mul h.d.d).up (by decide)
  have b : Bd 240 (D.1 * S.2 * t * (t - 1)) := ((((h.d.n.mul h.s.d).mul (bd_t (by omega) h2)).mul (bd_t (t := t - 1) (by omega) (by omega)))).up (by decide)
  exact ((a.up (by decide : 83 ≤ 240)).add b).up (by decide)
theorem phD_bd {D S : Int × Int} {lo most le : Nat} (h : Bq D S lo most le) {t : Int} (ht : 1 ≤ t) (h2 : t < 2 ^ 76) : Bd 250 (phD D S t) := (((h.d.d.mul h.s.d).mul (bd_t (by omega) h2))).up (by decide)
theorem qphi_fq {D S : Int × Int} {lo most le : Nat} (h : Bq D S lo most le) {t : Int} (ht : 1 ≤ t) (h2 : t < 2 ^ 76) : FqQ 250 (qphi D S t) :=
  red_fq (by have := phD_pos h ht; omega) (phN_bd h ht h2) (phD_bd h ht h2)
def rPhi : RR := fun ds po => ∃ c D S lo most le t, ds = [bdQ c D S lo most le, .int t] ∧ Bq D S lo most le ∧ 1 ≤ t ∧ t < 2 ^ 76 ∧ po = fun r => r = frq (qphi D S t)
theorem c_phi {K : PySem.W.Frag} {M : MM} {Q : Ent → MM → Prop} {c : Int} {D S : Int × Int} {lo most le : Nat} {t : Int} (h : Bq D S lo most le) (h1 : 1 ≤ t) (h2 : t < 2 ^ 76) (p : Q (.dat (frq (qphi D S t))) M) : Cb K (fun vs H Q => SpQ K rPhi vs H Q E0) [.dat (bdQ c D S lo most le), .dat (.int t)] M Q :=
  c_Q (.cons (.cons .nil)) _ ⟨c, D, S, lo, most, le, t, rfl, h, h1, h2, rfl⟩ fun z e => by cases e; exact p
/-- what the turn is -/
def IsTurn (D S : Int × Int) (r : PyData) : Prop := (D.1 = 0 → 0 < S.1 → r = .none) ∧ (¬ (D.1 = 0 ∧ 0 < S.1) → ∃ t : Int, r = .int t ∧ 1 ≤ t ∧ t < 2 ^ 62 ∧ 4 * S.1 * D.2 ≤ D.1 * S.2 * t * (t + 1) ∧ (1 < t → D.1 * S.2 * t * (t - 1) < 4 * S.1 * D.2))
def rTurn : RR := fun ds po => ∃ c D S lo most le, ds = [bdQ c D S lo most le] ∧ Bq D S lo most le ∧ po = fun r => IsTurn D S r
section
variable {P : Program} {w : World} {K : PySem.W.Frag} {mg : Str → Option Value} {base : Heap}
end
end K34

set_option Elab.async false
set_option linter.all false
set_option maxRecDepth 100000
set_option maxHeartbeats 1000000
set_option exponentiation.threshold 20000
namespace K34
open PySem PySem.Spec PyProof.Rows L2 Yw
local macro_rules | `(tactic| walk_at "ye") => `(tactic| first
  | ((with_reducible show Ev _ (tVar _) _ _ _); first | refine ev_dat rfl ?_ | refine ev_ref rfl ?_ | refine ev_var rfl (fun z => nomatch z) ?_)
  | ((with_reducible show Ev _ (tC _) _ _ _); first | with_reducible refine ev_int ?_ | with_reducible refine ev_bl ?_ | with_reducible refine ev_non ?_ | with_reducible refine ev_str ?_ | with_reducible refine ev_ty ?_)
  | with_reducible refine ev_op ?_
  | with_reducible refine ev_un ?_
  | with_reducible refine ev_go ?_
  | with_reducible refine ev_cb ?_
  | with_reducible refine ev_tupD ?_
  | with_reducible refine ev_lstD ?_
  | with_reducible refine ev_chain ?_
  | with_reducible refine ev_if ?_
  | with_reducible refine ev_andV ?_
  | with_reducible refine ev_orV ?_
  | with_reducible refine ev_notV ?_
  | with_reducible refine ev_sl ?_
  | with_reducible refine ev_bm ?_)
local macro_rules | `(tactic| walk_at "ya") => `(tactic| first
  | with_reducible refine ea_cons ?_
  | with_reducible refine ea_nil ?_
  | with_reducible refine eo_none ?_
  | with_reducible refine eo_some ?_
  | with_reducible refine et_test ?_
  | with_reducible refine et_B ?_
  | with_reducible refine et_and ?_
  | with_reducible refine et_or ?_
  | with_reducible refine et_not ?_
  | with_reducible refine et_yes ?_
  | with_reducible refine tg_name ?_
  | with_reducible refine tgs_nil ?_
  | with_reducible refine tgs_cons ?_
  | ((with_reducible show Tg _ (gTup _ _ _) _ _ _ _); refine tg_tup rfl ?_)
  | with_reducible refine tg_sub ?_)
local macro_rules | `(tactic| walk_at "ys") => `(tactic| first
  | with_reducible refine sj_seq ?_
  | with_reducible refine sj_next ?_
  | with_reducible refine sj_newD ?_
  | with_reducible refine sj_set ?_
  | with_reducible refine sj_par ?_
  | with_reducible refine sj_ret ?_
  | with_reducible refine sj_drop ?_
  | with_reducible refine sj_if ?_
  | with_reducible refine sj_asg ?_
  | with_reducible refine sj_augS ?_
  | with_reducible refine iw_seq ?_
  | with_reducible refine iw_zip ?_
  | with_reducible refine iw_list ?_
  | with_reducible refine iw_tup ?_
  | with_reducible refine iw_r1 ?_
  | with_reducible refine iw_r2 ?_
  | with_reducible refine iw_enumT ?_)
local macro_rules | `(tactic| walk_at "yo") => `(tactic| first
  | with_reducible refine o_int ?_
  | with_reducible refine o_bool ?_
  | with_reducible refine o_mul (by first | exact mulR ⟨by decide, by decide⟩ | exact mulL ⟨by decide, by decide⟩) ?_
  | with_reducible refine o_mul ?_ ?_
  | with_reducible refine o_mod (by decide) ?_
  | with_reducible refine o_mod ?_ ?_
  | with_reducible refine o_div (by decide) (by decide +kernel) ?_
  | with_reducible refine o_cat ?_ ?_
  | with_reducible refine o_catT ?_ ?_
  | ((with_reducible show Op2 _ (rIxL _) (Ent.ref _) _ _ _); refine o_ixM (List.Mem.head _) rfl ?_)
  | with_reducible refine o_eqI ?_
  | with_reducible refine o_neI ?_
  | with_reducible refine o_eqS ?_
  | with_reducible refine o_neS ?_
  | with_reducible refine o_neg ?_
  | ((with_reducible show Op2 _ (rIxT _) _ _ _ _); refine o_ixT rfl ?_)
  | ((with_reducible show Op2 _ (rIxL _) (Ent.dat _) _ _ _); refine o_ixL rfl ?_)
  | ((with_reducible show Op2 _ (rI CPow _) _ _ _ _); refine o_pow ⟨by decide, by decide, by decide⟩ rfl ?_)
  | with_reducible refine c_abs ?_
  | with_reducible refine c_int ?_
  | with_reducible refine c_min2 ?_
  | with_reducible refine c_max2 ?_
  | with_reducible refine c_gcd ?_
  | with_reducible refine sl_L ?_
  | with_reducible refine c_len (.lst _) ?_
  | with_reducible refine c_len (.tup _) ?_)
local macro_rules | `(tactic| walk_at "yx") => `(tactic| first
  | with_reducible refine ⟨_, rfl, ?_⟩
  | with_reducible refine ⟨_, _, rfl, ?_⟩
  | with_reducible refine ⟨fun _ => ?_, fun _ => ?_⟩
  | ((with_reducible show ∃ _ _ _ _ _ _, _ = _ ∧ _ = _ ∧ _ = _ ∧ _ = _ ∧ _); refine ⟨[], _, _, _, _, _, rfl, rfl, rfl, rfl, ?_⟩)
  | ((with_reducible show ∃ _ _ _ _ _, _ = _ ∧ _ = _ ∧ _ ∧ _ ∧ _ ∧ _ = _ ∧ _ = _ ∧ _); refine ⟨_, _, _, _, _, rfl, rfl, List.Mem.head _, by decide, by decide, rfl, rfl, ?_⟩)
  | ((with_reducible show ∃ _ _ _, _ = _ ∧ _ = _ ∧ _); refine ⟨[], _, _, rfl, rfl, ?_⟩)
  | ((with_reducible show ∃ _, Ds _ _ ∧ _ ∧ _); refine ⟨_, (by repeat (first | exact Ds.nil | apply Ds.cons)), (by simp), ?_⟩))
local macro_rules | `(tactic| walk_at "yy") => `(tactic| first | walk_at "ye" | walk_at "ya" | walk_at "ys" | walk_at "yo" | walk_at "yx" | walk_at "yc")

local macro_rules | `(tactic| walk_at "yc") => `(tactic| first | with_reducible refine ev_revT ?_)
def rGcdL : RR := fun ds po => ∃ n d, ds = [.int n, .int d] ∧ po = fun r => r = .int (Int.gcd n d : Nat)
def rPart : RR := fun ds po => ∃ n d, ds = [.int n, .int d] ∧ 0 < d ∧ Bd 8000 n ∧ Bd 8000 d ∧ po = fun r => r = frq (redN n d, redD n d)
def rAdd : RR := fun ds po => ∃ p q, ds = [frq p, frq q] ∧ FqQ 2000 p ∧ FqQ 2000 q ∧ po = fun r => r = frq (qadd p q)
def qmany (p : Int × Int) (m : Int) : Int × Int := (redN (p.1 * m) p.2, redD (p.1 * m) p.2)
def rManyL : RR := fun ds po => ∃ p m, ds = [frq p, .int m] ∧ FqQ 2000 p ∧ Bd 900 m ∧ po = fun r => r = frq (qmany p m)
def belowB (p q : Int × Int) : Bool := decide (p.1 * q.2 < q.1 * p.2)
def rBelow : RR := fun ds po => ∃ p q, ds = [frq p, frq q] ∧ FqQ 2000 p ∧ FqQ 2000 q ∧ po = fun r => r = .bool (belowB p q)
theorem part_of_bd {k : Nat} {n d : Int} (hd : 0 < d) (a : Bd k n) (b : Bd k d) : FqQ k (redN n d, redD n d) := red_fq (by omega) a b
theorem many_fq {k : Nat} {p : Int × Int} {m : Int} (hp : FqQ k p) (hm : Bd 100 m) : FqQ (k + 100) (qmany p m) := red_fq (by have := hp.fr.1; omega) (hp.n.mul hm) (hp.d.up (by omega))
section
variable {K : PySem.W.Frag} {M : MM} {Q : Ent → MM → Prop}
theorem c_gcdL {n d : Int} (p : Q (.dat (.int (Int.gcd n d : Nat))) M) : Cb K (fun vs H Q => SpQ K rGcdL vs H Q E0) [.dat (.int n), .dat (.int d)] M Q := c_Q (.cons (.cons .nil)) _ ⟨n, d, rfl, rfl⟩ fun r e => by rw [e]; exact p
theorem c_part {n d : Int} (hd : 0 < d) (b1 : Bd 8000 n) (b2 : Bd 8000 d) (p : Q (.dat (frq (redN n d, redD n d))) M) : Cb K (fun vs H Q => SpQ K rPart vs H Q E0) [.dat (.int n), .dat (.int d)] M Q := c_Q (.cons (.cons .nil)) _ ⟨n, d, rfl, hd, b1, b2, rfl⟩ fun r e => by rw [e]; exact p
theorem c_add {x y : Int × Int} (hx : FqQ 2000 x) (hy : FqQ 2000 y) (p : Q (.dat (frq (qadd x y))) M) : Cb K (fun vs H Q => SpQ K rAdd vs H Q E0) [.dat (frq x), .dat (frq y)] M Q := c_Q (.cons (.cons .nil)) _ ⟨x, y, rfl, hx, hy, rfl⟩ fun r e => by rw [e]; exact p
theorem c_manyL {x : Int × Int} {m : Int} (hx : FqQ 2000 x) (hm : Bd 900 m) (p : Q (.dat (frq (qmany x m))) M) : Cb K (fun vs H Q => SpQ K rManyL vs H Q E0) [.dat (frq x), .dat (.int m)] M Q := c_Q (.cons (.cons .nil)) _ ⟨x, m, rfl, hx, hm, rfl⟩ fun r e => by rw [e]; exact p
theorem c_below {x y : Int × Int} (hx : FqQ 2000 x) (hy : FqQ 2000 y) (p : Q (.dat (.bool (belowB x y))) M) : Cb K (fun vs H Q => SpQ K rBelow vs H Q E0) [.dat (frq x), .dat (frq y)] M Q := c_Q (.cons (.cons .nil)) _ ⟨x, y, rfl, hx, hy, rfl⟩ fun r e => by rw [e]; exact p
end
theorem below_leq {p q : Int × Int} (h : belowB p q = true) : leq p q := by
  have := of_decide_eq_true h
  exact Int.le_of_lt this
theorem below_not {p q : Int × Int} (h : belowB p q = false) : leq q p := by
  have := of_decide_eq_false h
  show q.1 * p.2 ≤ p.1 * q.2
  omega
theorem phi_two {D S : Int × Int} {lo most le : Nat} (h : Bq D S lo most le) {t : Int} (ht : 1 ≤ t) : qadd (redN (S.1 * 4) (S.2 * t), redD (S.1 * 4) (S.2 * t)) (qmany D (t - 1)) = qphi D S t := by
  have h1 : 0 < S.2 * t := Int.mul_pos h.s.fr.1 (by omega)
  have h2 := h.d.fr.1
  have e1 := red_eq (S.1 * 4) (S.2 * t)
  have e2 := red_eq (D.1 * (t - 1)) D.2
  have p1 := redD_pos (n := S.1 * 4) (show S.2 * t ≠ 0 by omega)
  have p2 := redD_pos (n := D.1 * (t - 1)) (show D.2 ≠ 0 by omega)
  unfold qadd qphi qmany
  simp only
  generalize redN (S.1 * 4) (S.2 * t) = x at e1 ⊢
  generalize redD (S.1 * 4) (S.2 * t) = y at e1 p1 ⊢
  generalize redN (D.1 * (t - 1)) D.2 = u at e2 ⊢
  generalize redD (D.1 * (t - 1)) D.2 = v at e2 p2 ⊢
  have np := phD_pos h ht
  obtain ⟨a, b⟩ := red_congr (n := x * v + u * y) (d := y * v) (m := phN D S t) (e := phD D S t) (by have := Int.mul_pos p1 p2; omega) (by omega) (by unfold phN phD; grind)
  rw [a, b]
section
variable {P : Program} {w : World} {K : PySem.W.Frag} {mg : Str → Option Value} {base : Heap}
theorem ok_l_common (B : Bt mg)  (T : Stands K mg "_law_common" s_l_common ["one", "other"]) : Has P w K mg base 1 "_law_common" ["one", "other"] (SpQ K rGcdL) := by
  refine hasQ T sc_l_common (fun ds po ⟨n, d, e, _⟩ => by rw [e]; rfl) 0 rfl fun f cdv A outer s H E g hr => ⟨_, (pss_cons (ps_par (i := 0) (j := 1) (by rfl) sc_l_common.nd rfl rfl (by decide) rfl rfl (pa_cons (pe_callB call_abs (by rfl) B.b_abs (by decide +kernel) (pa_cons (pv 0) pa_nil)) (pa_cons (pe_callB call_abs (by rfl) B.b_abs (by decide +kernel) (pa_cons (pv 1) pa_nil)) pa_nil)) (by rfl))
      (pss_cons (ps_while PassesOwn.never (pt_cmpR op_ne (pv 1) pe_int (nomark _)) (pss_one (ps_par (i := 0) (j := 1) (by rfl) sc_l_common.nd rfl rfl (by decide) rfl rfl (pa_cons (pv 1) (pa_cons (pe_op op_mod (pe_callTy call_int1 (by rfl) B.b_int (by decide +kernel) (pa_cons (pv 0) pa_nil)) (pv 1)) pa_nil)) (by rfl))))
      (pss_one (ps_ret (pv 0))))), ?_⟩
  try dsimp only [cxOf]
  rintro ds po ⟨n, d, rfl, rfl⟩
  repeat' walk_at "yy"
  rw [abs_if, abs_if]
  refine sj_while (fun m es M => ∃ a b : Nat, m = b ∧ es = [.dat (.int a), .dat (.int b)] ∧ Nat.gcd a b = Int.gcd n d) d.natAbs ⟨n.natAbs, d.natAbs, rfl, rfl, rfl⟩ ?_
  rintro m es M ⟨a, b, rfl, rfl, hg⟩
  repeat' walk_at "yy"
  · rename_i h
    have : ¬ ((m : Int) = 0) := by simpa using h
    omega
  · rename_i h
    have c : ¬ ((m : Int) = 0) := by simpa using h
    repeat' walk_at "yy"
    refine ⟨a % m, Nat.mod_lt _ (by omega), m, a % m, rfl, ?_, ?_⟩
    · rfl
    · rw [← hg, Nat.gcd_comm a m, Nat.gcd_rec m a, Nat.gcd_comm]
  · rename_i h1
    have c : m = 0 := by
      have : ((m : Int) = 0) := by simpa using h1
      omega
    subst c
    rw [Nat.gcd_zero_right] at hg
    subst hg
    rfl
theorem ok_l_part (B : Bt mg) (D_l_common : Has P w K mg base 1 "_law_common" ["one", "other"] (SpQ K rGcdL)) (T : Stands K mg "_law_part" s_l_part ["n", "d"]) : Has P w K mg base 2 "_law_part" ["n", "d"] (SpQ K rPart) := by
  refine hasQ T sc_l_part (fun ds po ⟨n, d, e, _⟩ => by rw [e]; rfl) 1 rfl fun f cdv A outer s H E g hr => ⟨_, (pss_cons (ps_set (i := 2) sc_l_part.nd rfl (by first | exact .inl rfl | exact .inr rfl) (peD D_l_common g hr (by first | decide | exact Nat.le_refl _ | omega) (by rfl) (pa_cons (pv 0) (pa_cons (pv 1) pa_nil))))
      (pss_one (ps_ret (pe_tup (pa_cons (pe_op op_divA (pv 0) (pv 2)) (pa_cons (pe_op op_divA (pv 1) (pv 2)) pa_nil)))))), ?_⟩
  try dsimp only [cxOf]
  rintro ds po ⟨n, d, rfl, hd, bn, bd, rfl⟩
  have z := sg_ne (n := n) (show d ≠ 0 by omega)
  have bs := (sg_bd (n := n) (show d ≠ 0 by omega) bd).div (by decide) (by decide)
  have es : ((Int.gcd n d : Nat) : Int) = sg n d := by unfold sg; rw [if_neg (by omega)]
  repeat' (first | refine c_gcdL ?_ | walk_at "yy")
  rw [es]
  repeat' (first | exact z | exact bs | refine o_divA z bs ?_ | walk_at "yy")
  rfl
theorem ok_l_add (B : Bt mg) (D_l_part : Has P w K mg base 2 "_law_part" ["n", "d"] (SpQ K rPart)) (T : Stands K mg "_law_add" s_l_add ["one", "other"]) : Has P w K mg base 3 "_law_add" ["one", "other"] (SpQ K rAdd) := by
  refine hasQ T sc_l_add (fun ds po ⟨p, q, e, _⟩ => by rw [e]; rfl) 0 rfl fun f cdv A outer s H E g hr => ⟨_, (pss_one (ps_ret (peD D_l_part g hr (by first | decide | exact Nat.le_refl _ | omega) (by rfl) (pa_cons (pe_op op_add (pe_op op_mulA (pe_ix ix_tup (pv 0) pe_int (fun _ _ => rfl)) (pe_ix ix_tup (pv 1) pe_int (fun _ _ => rfl))) (pe_op op_mulA (pe_ix ix_tup (pv 1) pe_int (fun _ _ => rfl)) (pe_ix ix_tup (pv 0) pe_int (fun _ _ => rfl)))) (pa_cons (pe_op op_mulA (pe_ix ix_tup (pv 0) pe_int (fun _ _ => rfl)) (pe_ix ix_tup (pv 1) pe_int (fun _ _ => rfl))) pa_nil))))), ?_⟩
  try dsimp only [cxOf]
  rintro ds po ⟨p, q, rfl, hp, hq, rfl⟩
  have o1 : IntMulOk p.1 q.2 := mk2 hp.n hq.d
  have o2 : IntMulOk q.1 p.2 := mk2 hq.n hp.d
  have o3 : IntMulOk p.2 q.2 := mk2 hp.d hq.d
  have pp := Int.mul_pos hp.fr.1 hq.fr.1
  have n1 : Bd 8000 (p.1 * q.2 + q.1 * p.2) := ((hp.n.mul hq.d).add (hq.n.mul hp.d)).up (by decide)
  have n2 : Bd 8000 (p.2 * q.2) := (hp.d.mul hq.d).up (by decide)
  repeat' (first | refine o_mul o1 ?_ | refine o_mul o2 ?_ | refine o_mul o3 ?_ | refine c_part pp n1 n2 ?_ | walk_at "yy")
  rfl
theorem ok_l_many (B : Bt mg) (D_l_part : Has P w K mg base 2 "_law_part" ["n", "d"] (SpQ K rPart)) (T : Stands K mg "_law_many" s_l_many ["one", "many"]) : Has P w K mg base 3 "_law_many" ["one", "many"] (SpQ K rManyL) := by
  refine hasQ T sc_l_many (fun ds po ⟨p, m, e, _⟩ => by rw [e]; rfl) 0 rfl fun f cdv A outer s H E g hr => ⟨_, (pss_one (ps_ret (peD D_l_part g hr (by first | decide | exact Nat.le_refl _ | omega) (by rfl) (pa_cons (pe_op op_mulA (pe_ix ix_tup (pv 0) pe_int (fun _ _ => rfl)) (pv 1)) (pa_cons (pe_ix ix_tup (pv 0) pe_int (fun _ _ => rfl)) pa_nil))))), ?_⟩
  try dsimp only [cxOf]
  rintro ds po ⟨p, m, rfl, hp, hm, rfl⟩
  have o1 : IntMulOk p.1 m := mk2 hp.n (hm.up (by decide))
  have n1 : Bd 8000 (p.1 * m) := (hp.n.mul hm).up (by decide)
  repeat' (first | refine o_mul o1 ?_ | refine c_part hp.fr.1 n1 (hp.d.up (by decide)) ?_ | walk_at "yy")
  rfl
theorem ok_l_is_below (B : Bt mg)  (T : Stands K mg "_law_is_below" s_l_is_below ["one", "other"]) : Has P w K mg base 1 "_law_is_below" ["one", "other"] (SpQ K rBelow) := by
  refine hasQ T sc_l_is_below (fun ds po ⟨p, q, e, _⟩ => by rw [e]; rfl) 0 rfl fun f cdv A outer s H E g hr => ⟨_, (pss_one (ps_ret (pe_cmpR op_lt (pe_op op_mulA (pe_ix ix_tup (pv 0) pe_int (fun _ _ => rfl)) (pe_ix ix_tup (pv 1) pe_int (fun _ _ => rfl))) (pe_op op_mulA (pe_ix ix_tup (pv 1) pe_int (fun _ _ => rfl)) (pe_ix ix_tup (pv 0) pe_int (fun _ _ => rfl))) (nomark _)))), ?_⟩
  try dsimp only [cxOf]
  rintro ds po ⟨p, q, rfl, hp, hq, rfl⟩
  have o1 : IntMulOk p.1 q.2 := mk2 hp.n hq.d
  have o2 : IntMulOk q.1 p.2 := mk2 hq.n hp.d
  repeat' (first | refine o_mul o1 ?_ | refine o_mul o2 ?_ | walk_at "yy")
  rfl
theorem ok_l_phi (B : Bt mg) (D_l_add : Has P w K mg base 3 "_law_add" ["one", "other"] (SpQ K rAdd)) (D_l_part : Has P w K mg base 2 "_law_part" ["n", "d"] (SpQ K rPart)) (D_l_many : Has P w K mg base 3 "_law_many" ["one", "many"] (SpQ K rManyL)) (T : Stands K mg "_law_phi" s_l_phi ["bounds", "t"]) : Has P w K mg base 4 "_law_phi" ["bounds", "t"] (SpQ K rPhi) := by
  refine hasQ T sc_l_phi (fun ds po ⟨c, D, S, lo, most, le, t, e, _⟩ => by rw [e]; rfl) 0 rfl fun f cdv A outer s H E g hr => ⟨_, (pss_one (ps_ret (peD D_l_add g hr (by first | decide | exact Nat.le_refl _ | omega) (by rfl) (pa_cons (peD D_l_part g hr (by first | decide | exact Nat.le_refl _ | omega) (by rfl) (pa_cons (pe_op op_mulA (pe_ix ix_tup (pe_ix ix_tup (pv 0) pe_int (fun _ _ => rfl)) pe_int (fun _ _ => rfl)) pe_int) (pa_cons (pe_op op_mulA (pe_ix ix_tup (pe_ix ix_tup (pv 0) pe_int (fun _ _ => rfl)) pe_int (fun _ _ => rfl)) (pv 1)) pa_nil))) (pa_cons (peD D_l_many g hr (by first | decide | exact Nat.le_refl _ | omega) (by rfl) (pa_cons (pe_ix ix_tup (pv 0) pe_int (fun _ _ => rfl)) (pa_cons (pe_op op_sub (pv 1) pe_int) pa_nil))) pa_nil))))), ?_⟩
  try dsimp only [cxOf]
  rintro ds po ⟨c, D, S, lo, most, le, t, rfl, hB, h1, h2, rfl⟩
  have d := hB.d
  have s := hB.s
  have bt := bd_t (by omega) h2
  have o1 : IntMulOk S.2 t := Bd.ok s.d bt (by decide) (by decide) (by decide)
  have pp := Int.mul_pos s.fr.1 (show 0 < t by omega)
  have n1 : Bd 120 (S.1 * 4) := ((s.n.mul (Bd.up (j := 3) (k := 3) (by show _ < _; decide) (by decide)))).up (by decide)
  have n2 : Bd 120 (S.2 * t) := (s.d.mul bt).up (by decide)
  have m1 : Bd 76 (t - 1) := bd_t (t := t - 1) (by omega) (by omega)
  have f1 := part_of_bd pp n1 n2
  have f2 : FqQ 140 (qmany D (t - 1)) := many_fq d (m1.up (by decide))
  have e := phi_two hB h1
  repeat' (first | refine o_mul o1 ?_ | refine c_part pp (n1.up (by decide)) (n2.up (by decide)) ?_ | refine c_manyL (d.up (by decide)) (m1.up (by decide)) ?_ | refine c_add (f1.up (by decide)) (f2.up (by decide)) ?_ | walk_at "yy")
  rw [e]
end
end K34

set_option Elab.async false
set_option linter.all false
set_option maxRecDepth 100000
set_option maxHeartbeats 1000000
set_option exponentiation.threshold 20000
namespace K34
open PySem PySem.Spec PyProof.Rows L2 Yw
local macro_rules | `(tactic| walk_at "ye") => `(tactic| first
  | ((with_reducible show Ev _ (tVar _) _ _ _); first | refine ev_dat rfl ?_ | refine ev_ref rfl ?_ | refine ev_var rfl (fun z => nomatch z) ?_)
  | ((with_reducible show Ev _ (tC _) _ _ _); first | with_reducible refine ev_int ?_ | with_reducible refine ev_bl ?_ | with_reducible refine ev_non ?_ | with_reducible refine ev_str ?_ | with_reducible refine ev_ty ?_)
  | with_reducible refine ev_op ?_
  | with_reducible refine ev_un ?_
  | with_reducible refine ev_go ?_
  | with_reducible refine ev_cb ?_
  | with_reducible refine ev_tupD ?_
  | with_reducible refine ev_lstD ?_
  | with_reducible refine ev_chain ?_
  | with_reducible refine ev_if ?_
  | with_reducible refine ev_andV ?_
  | with_reducible refine ev_orV ?_
  | with_reducible refine ev_notV ?_
  | with_reducible refine ev_sl ?_
  | with_reducible refine ev_bm ?_)
local macro_rules | `(tactic| walk_at "ya") => `(tactic| first
  | with_reducible refine ea_cons ?_
  | with_reducible refine ea_nil ?_
  | with_reducible refine eo_none ?_
  | with_reducible refine eo_some ?_
  | with_reducible refine et_test ?_
  | with_reducible refine et_B ?_
  | with_reducible refine et_and ?_
  | with_reducible refine et_or ?_
  | with_reducible refine et_not ?_
  | with_reducible refine et_yes ?_
  | with_reducible refine tg_name ?_
  | with_reducible refine tgs_nil ?_
  | with_reducible refine tgs_cons ?_
  | ((with_reducible show Tg _ (gTup _ _ _) _ _ _ _); refine tg_tup rfl ?_)
  | with_reducible refine tg_sub ?_)
local macro_rules | `(tactic| walk_at "ys") => `(tactic| first
  | with_reducible refine sj_seq ?_
  | with_reducible refine sj_next ?_
  | with_reducible refine sj_newD ?_
  | with_reducible refine sj_set ?_
  | with_reducible refine sj_par ?_
  | with_reducible refine sj_ret ?_
  | with_reducible refine sj_drop ?_
  | with_reducible refine sj_if ?_
  | with_reducible refine sj_asg ?_
  | with_reducible refine sj_augS ?_
  | with_reducible refine iw_seq ?_
  | with_reducible refine iw_zip ?_
  | with_reducible refine iw_list ?_
  | with_reducible refine iw_tup ?_
  | with_reducible refine iw_r1 ?_
  | with_reducible refine iw_r2 ?_
  | with_reducible refine iw_enumT ?_)
local macro_rules | `(tactic| walk_at "yo") => `(tactic| first
  | with_reducible refine o_int ?_
  | with_reducible refine o_bool ?_
  | with_reducible refine o_mul (by first | exact mulR ⟨by decide, by decide⟩ | exact mulL ⟨by decide, by decide⟩) ?_
  | with_reducible refine o_mul ?_ ?_
  | with_reducible refine o_mod (by decide) ?_
  | with_reducible refine o_mod ?_ ?_
  | with_reducible refine o_div (by decide) (by decide +kernel) ?_
  | with_reducible refine o_cat ?_ ?_
  | with_reducible refine o_catT ?_ ?_
  | ((with_reducible show Op2 _ (rIxL _) (Ent.ref _) _ _ _); refine o_ixM (List.Mem.head _) rfl ?_)
  | with_reducible refine o_eqI ?_
  | with_reducible refine o_neI ?_
  | with_reducible refine o_eqS ?_
  | with_reducible refine o_neS ?_
  | with_reducible refine o_neg ?_
  | ((with_reducible show Op2 _ (rIxT _) _ _ _ _); refine o_ixT rfl ?_)
  | ((with_reducible show Op2 _ (rIxL _) (Ent.dat _) _ _ _); refine o_ixL rfl ?_)
  | ((with_reducible show Op2 _ (rI CPow _) _ _ _ _); refine o_pow ⟨by decide, by decide, by decide⟩ rfl ?_)
  | with_reducible refine c_abs ?_
  | with_reducible refine c_int ?_
  | with_reducible refine c_min2 ?_
  | with_reducible refine c_max2 ?_
  | with_reducible refine c_gcd ?_
  | with_reducible refine sl_L ?_
  | with_reducible refine c_len (.lst _) ?_
  | with_reducible refine c_len (.tup _) ?_)
local macro_rules | `(tactic| walk_at "yx") => `(tactic| first
  | with_reducible refine ⟨_, rfl, ?_⟩
  | with_reducible refine ⟨_, _, rfl, ?_⟩
  | with_reducible refine ⟨fun _ => ?_, fun _ => ?_⟩
  | ((with_reducible show ∃ _ _ _ _ _ _, _ = _ ∧ _ = _ ∧ _ = _ ∧ _ = _ ∧ _); refine ⟨[], _, _, _, _, _, rfl, rfl, rfl, rfl, ?_⟩)
  | ((with_reducible show ∃ _ _ _ _ _, _ = _ ∧ _ = _ ∧ _ ∧ _ ∧ _ ∧ _ = _ ∧ _ = _ ∧ _); refine ⟨_, _, _, _, _, rfl, rfl, List.Mem.head _, by decide, by decide, rfl, rfl, ?_⟩)
  | ((with_reducible show ∃ _ _ _, _ = _ ∧ _ = _ ∧ _); refine ⟨[], _, _, rfl, rfl, ?_⟩)
  | ((with_reducible show ∃ _, Ds _ _ ∧ _ ∧ _); refine ⟨_, (by repeat (first | exact Ds.nil | apply Ds.cons)), (by simp), ?_⟩))
local macro_rules | `(tactic| walk_at "yy") => `(tactic| first | walk_at "ye" | walk_at "ya" | walk_at "ys" | walk_at "yo" | walk_at "yx" | walk_at "yc")

local macro_rules | `(tactic| walk_at "ys") => `(tactic| first | with_reducible refine sj_par3L ?_ | with_reducible refine sj_parD0 ?_)
local macro_rules | `(tactic| walk_at "yc") => `(tactic| first | with_reducible refine ev_dget ?_ | with_reducible refine ev_din ?_ | with_reducible refine ev_dnotin ?_ | with_reducible refine sj_dput ?_)
def optQ : Option (Int × Int) → PyData
  | none => .none
  | some q => frq q
def OqF (o : Option (Int × Int)) : Prop := ∀ q, o = some q → FqQ 250 q
def gq (D S : Int × Int) (most : Nat) (cells : Int) (j : Nat) : Int × Int := qphi D S (cells + ((j * most : Nat) : Int))
def IsLeadS (D S : Int × Int) (most le : Nat) (cells : Int) (o : Option (Int × Int)) (q : Int × Int) : Prop := FqQ 250 q ∧ (o = some q ∨ ∃ j : Nat, 1 ≤ j ∧ j ≤ le ∧ q = gq D S most cells j) ∧ (∀ p, o = some p → leq q p) ∧ ∀ j : Nat, 1 ≤ j → j ≤ le → leq q (gq D S most cells j)
def rLeadS : RR := fun ds po => ∃ c D S lo most le o, ∃ cells : Int, ds = [bdQ c D S lo most le, .int cells, optQ o] ∧ Bq D S lo most le ∧ le ≤ 1000 ∧ 0 ≤ cells ∧ cells < 2 ^ 61 ∧ OqF o ∧ po = fun r => ∃ q, r = frq q ∧ IsLeadS D S most le cells o q
theorem turn_fin {D S : Int × Int} (hs : ¬ (D.1 * S.2 = 0 ∧ 0 < 4 * S.1 * D.2)) (d2 : 0 < D.2) {t : Int} (h1 : 1 ≤ t) (h2 : t < 2 ^ 62) (h3 : 4 * S.1 * D.2 ≤ D.1 * S.2 * t * (t + 1)) (h4 : 1 < t → D.1 * S.2 * t * (t - 1) < 4 * S.1 * D.2) : IsTurn D S (.int t) := by
  refine ⟨fun a b => absurd ⟨by rw [a, Int.zero_mul], ?_⟩ hs, fun _ => ⟨t, rfl, h1, h2, h3, h4⟩⟩
  exact Int.mul_pos (by omega) d2
theorem turn_non {D S : Int × Int} (d2 : 0 < D.2) (s2 : 0 < S.2) (h1 : D.1 * S.2 = 0) (h2 : 0 < 4 * S.1 * D.2) : IsTurn D S .none := by
  have a : D.1 = 0 := by
    rcases Int.mul_eq_zero.mp h1 with z | z
    · exact z
    · omega
  have b : 0 < S.1 := by
    rcases Int.lt_or_le 0 S.1 with z | z
    · exact z
    · have := Int.mul_nonpos_of_nonpos_of_nonneg (show 4 * S.1 ≤ 0 by omega) (show 0 ≤ D.2 by omega)
      omega
  exact ⟨fun _ _ => rfl, fun h => absurd ⟨a, b⟩ h⟩
/-- what may stand in the table of the least ones -/
def KnOk (n : Nat) (kvs : KVs) : Prop := KeysIn n kvs ∧ ∀ k d, valD kvs k = some d → (k = .inl 0 ∧ d = .none) ∨ ∃ q, d = frq q ∧ FqQ 250 q
theorem KnOk.start {n : Nat} (hn : 0 < n) : KnOk n [(.inl 0, .none)] := by
  refine ⟨⟨[0], rfl, by simp, by simpa using hn⟩, fun k d hd => ?_⟩
  rw [valD_cons] at hd
  split at hd
  · rename_i e
    cases hd
    exact .inl ⟨e.symm, rfl⟩
  · cases hd
section
variable {P : Program} {w : World} {K : PySem.W.Frag} {mg : Str → Option Value} {base : Heap}
theorem ok_l_turn (B : Bt mg)  (T : Stands K mg "_law_turn" s_l_turn ["bounds"]) : Has P w K mg base 1 "_law_turn" ["bounds"] (SpQ K rTurn) := by
  refine hasQ T sc_l_turn (fun ds po ⟨c, D, S, lo, most, le, e, _⟩ => by rw [e]; rfl) 5 rfl fun f cdv A outer s H E g hr => ⟨_, (pss_cons (ps_par (i := 1) (j := 2) (by rfl) sc_l_turn.nd rfl rfl (by decide) rfl rfl (pa_cons (pe_op op_mulA (pe_op op_mulA pe_int (pe_ix ix_tup (pe_ix ix_tup (pv 0) pe_int (fun _ _ => rfl)) pe_int (fun _ _ => rfl))) (pe_ix ix_tup (pe_ix ix_tup (pv 0) pe_int (fun _ _ => rfl)) pe_int (fun _ _ => rfl))) (pa_cons (pe_op op_mulA (pe_ix ix_tup (pe_ix ix_tup (pv 0) pe_int (fun _ _ => rfl)) pe_int (fun _ _ => rfl)) (pe_ix ix_tup (pe_ix ix_tup (pv 0) pe_int (fun _ _ => rfl)) pe_int (fun _ _ => rfl))) pa_nil)) (by rfl))
      (pss_cons (ps_if (PW.pt (pw_and (pt_cmpR op_eq (pv 2) pe_int (nomark _)) (pw_and1 (pt_cmpR op_gt (pv 1) pe_int (nomark _))))) (pss_one (ps_ret pe_non)) pss_nil)
      (pss_cons (ps_asg (pe_tup (pa_cons pe_int (pa_cons pe_int pa_nil))) (pg_tup rfl (pgs_cons (pg_name (i := 3) sc_l_turn.nd rfl (by first | exact .inl rfl | exact .inr rfl)) (pgs_cons (pg_name (i := 4) sc_l_turn.nd rfl (by first | exact .inl rfl | exact .inr rfl)) pgs_nil))))
      (pss_cons (ps_while PassesOwn.never (pt_cmpR op_lt (pe_op op_mulA (pe_op op_mulA (pv 2) (pv 4)) (pe_op op_add (pv 4) pe_int)) (pv 1) (nomark _)) (pss_one (ps_par (i := 3) (j := 4) (by rfl) sc_l_turn.nd rfl rfl (by decide) rfl rfl (pa_cons (pv 4) (pa_cons (pe_op op_mulA (pv 4) pe_int) pa_nil)) (by rfl))))
      (pss_cons (ps_while PassesOwn.never (pt_cmpR op_gt (pe_op op_sub (pv 4) (pv 3)) pe_int (nomark _)) (pss_cons (ps_set (i := 5) sc_l_turn.nd rfl (by first | exact .inl rfl | exact .inr rfl) (pe_op op_divA (pe_op op_add (pv 3) (pv 4)) pe_int))
      (pss_one (ps_if (pt_cmpR op_lt (pe_op op_mulA (pe_op op_mulA (pv 2) (pv 5)) (pe_op op_add (pv 5) pe_int)) (pv 1) (nomark _)) (pss_one (ps_set (i := 3) sc_l_turn.nd rfl (by first | exact .inl rfl | exact .inr rfl) (pv 5))) (pss_one (ps_set (i := 4) sc_l_turn.nd rfl (by first | exact .inl rfl | exact .inr rfl) (pv 5)))))))
      (pss_one (ps_ret (pv 4)))))))), ?_⟩
  try dsimp only [cxOf]
  rintro ds po ⟨c, D, S, lo, most, le, rfl, hB, rfl⟩
  have d := hB.d
  have s := hB.s
  have dp := d.fr.1
  have sp := s.fr.1
  have d00 := hB.d0
  have s00 := hB.s0
  have nb := hB.n
  have n0 : 0 ≤ 4 * S.1 * D.2 := Int.mul_nonneg (by omega) (Int.le_of_lt dp)
  have st0 : 0 ≤ D.1 * S.2 := Int.mul_nonneg d00 (Int.le_of_lt sp)
  have o1 : IntMulOk (4 * S.1) D.2 := Bd.ok (Bd.mul (j := 3) (by show _ < _; decide) s.n) d.d (by decide) (by decide) (by decide)
  have o2 : IntMulOk D.1 S.2 := Bd.ok d.n s.d (by decide) (by decide) (by decide)
  have sb : Bd 80 (D.1 * S.2) := d.n.mul s.d
  repeat' (first | refine o_mul o1 ?_ | refine o_mul o2 ?_ | walk_at "yy")
  all_goals try exact absurd ‹false = true› (by decide)
  all_goals try exact turn_non dp sp (of_decide_eq_true ‹decide (D.1 * S.2 = 0) = true›) (of_decide_eq_true ‹decide (0 < 4 * S.1 * D.2) = true›)
  all_goals (
    have hs : ¬ (D.1 * S.2 = 0 ∧ 0 < 4 * S.1 * D.2) := by
      intro z
      first
        | (have := of_decide_eq_false ‹decide (0 < 4 * S.1 * D.2) = false›; omega)
        | (have := of_decide_eq_false ‹decide (D.1 * S.2 = 0) = false›; omega)
    have fin := fun t => turn_fin (D := D) (S := S) (t := t) hs dp
    generalize 4 * S.1 * D.2 = need at hs n0 nb fin ⊢
    generalize D.1 * S.2 = step at hs st0 sb fin ⊢
    refine sj_while (fun m es M => ∃ low high : Int, m = (need - high).toNat ∧ 0 ≤ low ∧ low < high ∧ high < 2 ^ 61 ∧ (1 ≤ low → step * low * (low + 1) < need) ∧ es = [.dat (bdQ c D S lo most le), .dat (.int need), .dat (.int step), .dat (.int low), .dat (.int high), .no] ∧ M = []) (need - 1).toNat ⟨0, 1, rfl, by decide, by decide, by decide, fun z => absurd z (by decide), rfl, rfl⟩ ?_
    rintro m es M ⟨low, high, rfl, l0, lh, hb, lw, rfl, rfl⟩
    have bh : Bd 61 high := by show high.natAbs < 2 ^ 61; omega
    have p1 : IntMulOk step high := Bd.ok sb bh (by decide) (by decide) (by decide)
    have p2 : IntMulOk (step * high) (high + 1) := Bd.ok (sb.mul bh) (k := 62) (by show (high + 1).natAbs < 2 ^ 62; omega) (by decide) (by decide) (by decide)
    repeat' (first | refine o_mul p1 ?_ | refine o_mul p2 ?_ | walk_at "yy")
    · have hlt := of_decide_eq_true ‹decide (step * high * (high + 1) < need) = true›
      have st1 : 1 ≤ step := by
        by_cases z : step = 0
        · subst z
          simp at hlt
          exact absurd ⟨rfl, hlt⟩ hs
        · omega
      have h1 : high * (high + 1) ≤ step * (high * (high + 1)) := by
        have := Int.mul_le_mul_of_nonneg_right st1 (Int.mul_nonneg (show 0 ≤ high by omega) (show 0 ≤ high + 1 by omega))
        omega
      have h2 : high ≤ high * (high + 1) := by
        have := Int.mul_le_mul_of_nonneg_left (show 1 ≤ high + 1 by omega) (show 0 ≤ high by omega)
        omega
      have hlt0 := hlt
      rw [Int.mul_assoc] at hlt
      exact ⟨(need - high * 2).toNat, by omega, high, high * 2, rfl, by omega, by omega, by omega, fun _ => hlt0, rfl, rfl⟩
    · have hge := of_decide_eq_false ‹decide (step * high * (high + 1) < need) = false›
      refine sj_while (fun m es M => ∃ (low high : Int), ∃ e5, m = (high - low).toNat ∧ 0 ≤ low ∧ low < high ∧ high < 2 ^ 61 ∧ (1 ≤ low → step * low * (low + 1) < need) ∧ ¬ step * high * (high + 1) < need ∧ es = [.dat (bdQ c D S lo most le), .dat (.int need), .dat (.int step), .dat (.int low), .dat (.int high), e5] ∧ M = []) (high - low).toNat ⟨low, high, .no, rfl, l0, lh, hb, lw, hge, rfl, rfl⟩ ?_
      clear hb lh l0 bh p1 p2 lw hge
      rintro m es M ⟨low, high, e5, rfl, l0, lh, hb, lw, hge, rfl, rfl⟩
      have mb : Bd 61 ((low + high) / 2) := by show ((low + high) / 2).natAbs < 2 ^ 61; omega
      have p1 : IntMulOk step ((low + high) / 2) := Bd.ok sb mb (by decide) (by decide) (by decide)
      have p2 : IntMulOk (step * ((low + high) / 2)) ((low + high) / 2 + 1) := Bd.ok (sb.mul mb) (k := 62) (by show ((low + high) / 2 + 1).natAbs < 2 ^ 62; omega) (by decide) (by decide) (by decide)
      repeat' (first | refine o_mul p1 ?_ | refine o_mul p2 ?_ | walk_at "yy")
      · have hgt := of_decide_eq_true ‹decide (1 < high - low) = true›
        have hc := of_decide_eq_true ‹decide (step * ((low + high) / 2) * ((low + high) / 2 + 1) < need) = true›
        exact ⟨(high - (low + high) / 2).toNat, by omega, (low + high) / 2, high, _, rfl, by omega, by omega, by omega, fun _ => hc, hge, rfl, rfl⟩
      · have hgt := of_decide_eq_true ‹decide (1 < high - low) = true›
        have hc := of_decide_eq_false ‹decide (step * ((low + high) / 2) * ((low + high) / 2 + 1) < need) = false›
        exact ⟨((low + high) / 2 - low).toNat, by omega, low, (low + high) / 2, _, rfl, by omega, by omega, by omega, lw, hc, rfl, rfl⟩
      · have hgt := of_decide_eq_false ‹decide (1 < high - low) = false›
        have el : low = high - 1 := by omega
        subst el
        refine fin high (by omega) (by omega) (by omega) fun h1 => ?_
        have := lw (by omega)
        rw [show high - 1 + 1 = high by omega, Int.mul_right_comm] at this
        exact this)
theorem ok_l_lead_strain (B : Bt mg) (D_l_phi : Has P w K mg base 4 "_law_phi" ["bounds", "t"] (SpQ K rPhi)) (D_l_is_below : Has P w K mg base 1 "_law_is_below" ["one", "other"] (SpQ K rBelow)) (T : Stands K mg "_law_lead_strain" s_l_lead_strain ["bounds", "cells", "least"]) : Has P w K mg base 5 "_law_lead_strain" ["bounds", "cells", "least"] (SpQ K rLeadS) := by
  refine hasQ T sc_l_lead_strain (fun ds po ⟨c, D, S, lo, most, le, o, cells, e, _⟩ => by rw [e]; rfl) 2 rfl fun f cdv A outer s H E g hr => ⟨_, (pss_cons (ps_for PassesOwn.never rfl (pi_range2 (by rfl) B.b_range (pa_cons pe_int (pa_cons (pe_op op_add (pe_ix ix_tup (pv 0) pe_int (fun _ _ => rfl)) pe_int) pa_nil))) (pg_name (i := 3) sc_l_lead_strain.nd rfl (by first | exact .inl rfl | exact .inr rfl)) (pss_cons (ps_set (i := 4) sc_l_lead_strain.nd rfl (by first | exact .inl rfl | exact .inr rfl) (peD D_l_phi g hr (by first | decide | exact Nat.le_refl _ | omega) (by rfl) (pa_cons (pv 0) (pa_cons (pe_op op_add (pv 1) (pe_op op_mulA (pv 3) (pe_ix ix_tup (pv 0) pe_int (fun _ _ => rfl)))) pa_nil))))
      (pss_one (ps_set (i := 2) sc_l_lead_strain.nd rfl (by first | exact .inl rfl | exact .inr rfl) (pe_ifExp (PW.pt (pw_or (pt_cmpR op_isN (pv 2) pe_non (nomark _)) (pw_or1 (pt_val (peD D_l_is_below g hr (by first | decide | exact Nat.le_refl _ | omega) (by rfl) (pa_cons (pv 4) (pa_cons (pv 2) pa_nil))))))) (pv 4) (pv 2))))))
      (pss_one (ps_ret (pv 2)))), ?_⟩
  try dsimp only [cxOf]
  rintro ds po ⟨c, D, S, lo, most, le, o, cells, rfl, hB, l1000, c0, c1, ho, rfl⟩
  have e1 := hB.e1
  have l1 := hB.l1
  have l2 := hB.l2
  have l3 := hB.l3
  refine sj_seq ?_
  refine sj_for ?_
  repeat' walk_at "yy"
  refine ⟨by omega, ?_⟩
  rw [show ((le : Int) + 1 - 1).toNat = le by omega]
  refine ⟨fun k es M => ∃ p e3 e4, es = [.dat (bdQ c D S lo most le), .dat (.int cells), .dat (optQ p), e3, e4] ∧ OqF p ∧ (k = 0 → p = o) ∧ (0 < k → ∃ q, p = some q ∧ IsLeadS D S most k cells o q) ∧ M = [], ⟨o, .no, .no, rfl, ho, fun _ => rfl, fun h => absurd h (by decide), rfl⟩, ?_, ?_⟩
  · rintro k d es M hd ⟨p, e3, e4, rfl, hp, hz, hs, rfl⟩
    obtain ⟨hk, rfl⟩ := rgD_at hd
    have ok1 : IntMulOk (1 + (k : Int)) (most : Int) := mulL (by omega)
    have hx : (1 + (k : Int)) * (most : Int) = (((k + 1) * most : Nat) : Int) := by rw [Int.natCast_mul, Int.add_comm]; rfl
    have hpp : 1 ≤ (k + 1) * most := Nat.mul_pos (by omega) (by omega)
    have hle : (k + 1) * most ≤ 1000 * 16 := Nat.mul_le_mul (by omega) (by omega)
    have fk := qphi_fq hB (t := cells + (1 + (k : Int)) * (most : Int)) (by omega) (by omega)
    have cp : ∀ {Q : Ent → MM → Prop} {M : MM}, Q (.dat (frq (qphi D S (cells + (1 + (k : Int)) * (most : Int))))) M → Cb K (fun vs H Q => SpQ K rPhi vs H Q E0) [.dat (bdQ c D S lo most le), .dat (.int (cells + (1 + (k : Int)) * (most : Int)))] M Q := fun p => c_phi hB (by omega) (by omega) p
    have eg : qphi D S (cells + (1 + (k : Int)) * (most : Int)) = gq D S most cells (k + 1) := by unfold gq; rw [hx]
    generalize qphi D S (cells + (1 + (k : Int)) * (most : Int)) = q0 at fk cp eg
    have one : ∀ j, 1 ≤ j → j ≤ k + 1 → j = k + 1 ∨ j ≤ k := fun j a b => by omega
    cases p with
    | none =>
      have k0 : k = 0 := by
        rcases Nat.eq_zero_or_pos k with z | z
        · exact z
        · obtain ⟨_, z, _⟩ := hs z
          cases z
      have eo := hz k0
      subst eo k0
      have key : IsLeadS D S most (0 + 1) cells none q0 := ⟨fk, .inr ⟨1, by decide, by decide, eg⟩, fun p h => (by cases h), fun j a b => by
        have : j = 0 + 1 := by omega
        subst this
        rw [← eg]
        exact leq_refl q0⟩
      simp only [optQ]
      repeat' (first | refine o_mul ok1 ?_ | refine cp ?_ | refine o_isN2 ?_ | exact absurd ‹isNone .none = false› (by decide) | walk_at "yy")
      exact ⟨some q0, _, _, rfl, fun r hr => (by cases hr; exact fk), fun h => absurd h (by omega), fun _ => ⟨q0, rfl, key⟩, rfl⟩
    | some q =>
      have fq := hp q rfl
      have hq : (o = some q ∨ ∃ j : Nat, 1 ≤ j ∧ j ≤ k ∧ q = gq D S most cells j) ∧ (∀ p, o = some p → leq q p) ∧ ∀ j : Nat, 1 ≤ j → j ≤ k → leq q (gq D S most cells j) := by
        rcases Nat.eq_zero_or_pos k with z | z
        · have eo := hz z
          refine ⟨.inl eo.symm, fun p h => ?_, fun j a b => absurd a (by omega)⟩
          rw [← eo] at h
          cases h
          exact leq_refl q
        · obtain ⟨q', e, h⟩ := hs z
          cases e
          exact h.2
      have opos : ∀ p, o = some p → 0 < p.2 := fun p h => (ho p h).fr.1
      have gpos : ∀ j : Nat, 1 ≤ j → 0 < (gq D S most cells j).2 := fun j a => qphi_pos hB.d.fr.1 hB.s.fr.1 (by have := Nat.mul_pos a (show 0 < most by omega); omega)
      simp only [optQ]
      repeat' (first | refine o_mul ok1 ?_ | refine cp ?_ | refine o_isN2 ?_ | exact absurd ‹isNone (frq q) = true› (by simp [isNone]) | refine c_below (fk.up (by decide)) (fq.up (by decide)) ?_ | walk_at "yy")
      · have hb := below_leq ‹belowB q0 q = true›
        have key : IsLeadS D S most (k + 1) cells o q0 := ⟨fk, .inr ⟨k + 1, by omega, by omega, eg⟩, fun p h => leq_trans fk.fr.1 fq.fr.1 (opos p h) hb (hq.2.1 p h), fun j a b => by
          rcases one j a b with z | z
          · subst z; rw [← eg]; exact leq_refl q0
          · exact leq_trans fk.fr.1 fq.fr.1 (gpos j a) hb (hq.2.2 j a z)⟩
        exact ⟨some q0, _, _, rfl, fun r hr => (by cases hr; exact fk), fun h => absurd h (by omega), fun _ => ⟨q0, rfl, key⟩, rfl⟩
      · have hb := below_not ‹belowB q0 q = false›
        have key : IsLeadS D S most (k + 1) cells o q := ⟨fq, hq.1.elim .inl fun ⟨j, a, b, e⟩ => .inr ⟨j, a, by omega, e⟩, hq.2.1, fun j a b => by
          rcases one j a b with z | z
          · subst z; rw [← eg]; exact hb
          · exact hq.2.2 j a z⟩
        exact ⟨some q, _, _, rfl, fun r hr => (by cases hr; exact fq), fun h => absurd h (by omega), fun _ => ⟨q, rfl, key⟩, rfl⟩
  · rintro es M ⟨p, e3, e4, rfl, hp, hz, hs, rfl⟩
    rw [rgD_len] at hs hz
    obtain ⟨q, rfl, hq⟩ := hs (by omega)
    repeat' walk_at "yy"
    exact hq
end
end K34

set_option Elab.async false
set_option linter.all false
set_option maxRecDepth 100000
set_option maxHeartbeats 1000000
set_option exponentiation.threshold 20000
namespace K34
open PySem PySem.Spec PyProof.Rows L2 Yw
local macro_rules | `(tactic| walk_at "ye") => `(tactic| first
  | ((with_reducible show Ev _ (tVar _) _ _ _); first | refine ev_dat rfl ?_ | refine ev_ref rfl ?_ | refine ev_var rfl (fun z => nomatch z) ?_)
  | ((with_reducible show Ev _ (tC _) _ _ _); first | with_reducible refine ev_int ?_ | with_reducible refine ev_bl ?_ | with_reducible refine ev_non ?_ | with_reducible refine ev_str ?_ | with_reducible refine ev_ty ?_)
  | with_reducible refine ev_op ?_
  | with_reducible refine ev_un ?_
  | with_reducible refine ev_go ?_
  | with_reducible refine ev_cb ?_
  | with_reducible refine ev_tupD ?_
  | with_reducible refine ev_lstD ?_
  | with_reducible refine ev_chain ?_
  | with_reducible refine ev_if ?_
  | with_reducible refine ev_andV ?_
  | with_reducible refine ev_orV ?_
  | with_reducible refine ev_notV ?_
  | with_reducible refine ev_sl ?_
  | with_reducible refine ev_bm ?_)
local macro_rules | `(tactic| walk_at "ya") => `(tactic| first
  | with_reducible refine ea_cons ?_
  | with_reducible refine ea_nil ?_
  | with_reducible refine eo_none ?_
  | with_reducible refine eo_some ?_
  | with_reducible refine et_test ?_
  | with_reducible refine et_B ?_
  | with_reducible refine et_and ?_
  | with_reducible refine et_or ?_
  | with_reducible refine et_not ?_
  | with_reducible refine et_yes ?_
  | with_reducible refine tg_name ?_
  | with_reducible refine tgs_nil ?_
  | with_reducible refine tgs_cons ?_
  | ((with_reducible show Tg _ (gTup _ _ _) _ _ _ _); refine tg_tup rfl ?_)
  | with_reducible refine tg_sub ?_)
local macro_rules | `(tactic| walk_at "ys") => `(tactic| first
  | with_reducible refine sj_seq ?_
  | with_reducible refine sj_next ?_
  | with_reducible refine sj_newD ?_
  | with_reducible refine sj_set ?_
  | with_reducible refine sj_par ?_
  | with_reducible refine sj_ret ?_
  | with_reducible refine sj_drop ?_
  | with_reducible refine sj_if ?_
  | with_reducible refine sj_asg ?_
  | with_reducible refine sj_augS ?_
  | with_reducible refine iw_seq ?_
  | with_reducible refine iw_zip ?_
  | with_reducible refine iw_list ?_
  | with_reducible refine iw_tup ?_
  | with_reducible refine iw_r1 ?_
  | with_reducible refine iw_r2 ?_
  | with_reducible refine iw_enumT ?_)
local macro_rules | `(tactic| walk_at "yo") => `(tactic| first
  | with_reducible refine o_int ?_
  | with_reducible refine o_bool ?_
  | with_reducible refine o_mul (by first | exact mulR ⟨by decide, by decide⟩ | exact mulL ⟨by decide, by decide⟩) ?_
  | with_reducible refine o_mul ?_ ?_
  | with_reducible refine o_mod (by decide) ?_
  | with_reducible refine o_mod ?_ ?_
  | with_reducible refine o_div (by decide) (by decide +kernel) ?_
  | with_reducible refine o_cat ?_ ?_
  | with_reducible refine o_catT ?_ ?_
  | ((with_reducible show Op2 _ (rIxL _) (Ent.ref _) _ _ _); refine o_ixM (List.Mem.head _) rfl ?_)
  | with_reducible refine o_eqI ?_
  | with_reducible refine o_neI ?_
  | with_reducible refine o_eqS ?_
  | with_reducible refine o_neS ?_
  | with_reducible refine o_neg ?_
  | ((with_reducible show Op2 _ (rIxT _) _ _ _ _); refine o_ixT rfl ?_)
  | ((with_reducible show Op2 _ (rIxL _) (Ent.dat _) _ _ _); refine o_ixL rfl ?_)
  | ((with_reducible show Op2 _ (rI CPow _) _ _ _ _); refine o_pow ⟨by decide, by decide, by decide⟩ rfl ?_)
  | with_reducible refine c_abs ?_
  | with_reducible refine c_int ?_
  | with_reducible refine c_min2 ?_
  | with_reducible refine c_max2 ?_
  | with_reducible refine c_gcd ?_
  | with_reducible refine sl_L ?_
  | with_reducible refine c_len (.lst _) ?_
  | with_reducible refine c_len (.tup _) ?_)
local macro_rules | `(tactic| walk_at "yx") => `(tactic| first
  | with_reducible refine ⟨_, rfl, ?_⟩
  | with_reducible refine ⟨_, _, rfl, ?_⟩
  | with_reducible refine ⟨fun _ => ?_, fun _ => ?_⟩
  | ((with_reducible show ∃ _ _ _ _ _ _, _ = _ ∧ _ = _ ∧ _ = _ ∧ _ = _ ∧ _); refine ⟨[], _, _, _, _, _, rfl, rfl, rfl, rfl, ?_⟩)
  | ((with_reducible show ∃ _ _ _ _ _, _ = _ ∧ _ = _ ∧ _ ∧ _ ∧ _ ∧ _ = _ ∧ _ = _ ∧ _); refine ⟨_, _, _, _, _, rfl, rfl, List.Mem.head _, by decide, by decide, rfl, rfl, ?_⟩)
  | ((with_reducible show ∃ _ _ _, _ = _ ∧ _ = _ ∧ _); refine ⟨[], _, _, rfl, rfl, ?_⟩)
  | ((with_reducible show ∃ _, Ds _ _ ∧ _ ∧ _); refine ⟨_, (by repeat (first | exact Ds.nil | apply Ds.cons)), (by simp), ?_⟩))
local macro_rules | `(tactic| walk_at "yy") => `(tactic| first | walk_at "ye" | walk_at "ya" | walk_at "ys" | walk_at "yo" | walk_at "yx" | walk_at "yc")

local macro_rules | `(tactic| walk_at "ys") => `(tactic| first | with_reducible refine sj_par3L ?_ | with_reducible refine sj_parD0 ?_)
local macro_rules | `(tactic| walk_at "yc") => `(tactic| first | with_reducible refine ev_dget ?_ | with_reducible refine ev_din ?_ | with_reducible refine ev_dnotin ?_ | with_reducible refine sj_dput ?_)
theorem frs_len (fs : List (Int × Int)) : (frs fs).length = fs.length := List.length_map ..
def IsPullB (D S : Int × Int) (lo most le : Nat) (q : Int × Int) : Prop := FqQ 250 q ∧ (D.1 = 0 → 0 < S.1 → q = qphi D S ((le * most : Nat) : Int)) ∧ ∀ T, IsTurnT D S T → T < 2 ^ 62 → ¬ (D.1 = 0 ∧ 0 < S.1) → IsPull (qphi D S) lo most le T q
def rFarP : RR := fun ds po => ∃ c D S lo most le, ∃ v : Int, ds = [bdQ c D S lo most le, .int v] ∧ Bq D S lo most le ∧ 40 < v ∧ v < 2 ^ 61 ∧ IsTurnT D S v ∧ po = fun r => ∃ q, r = frq q ∧ FqQ 250 q ∧ IsPull (qphi D S) lo most le v q
theorem leap_fq {D S : Int × Int} {lo most le : Nat} (h : Bq D S lo most le) {T : Int} (ht : T < 2 ^ 62) {q : Int × Int} (hq : IsLeap (qphi D S) lo most le T q) : FqQ 250 q := by
  have l1 := h.l1
  have l2 := h.l2
  have l3 := h.l3
  have e1 := h.e1
  rcases hq with ⟨a, rfl⟩ | ⟨a, rfl⟩ | ⟨u, a, b, c, _, rfl⟩
  · exact qphi_fq h (by have := Nat.mul_pos e1 (show 0 < most by omega); omega) (by omega)
  · exact qphi_fq h (by omega) (by omega)
  · exact minq_fq (qphi_fq h a (by omega)) (qphi_fq h (by omega) (by omega))
theorem turn_small {D S : Int × Int} {lo most le : Nat} (h : Bq D S lo most le) {T : Int} (hT : IsTurnT D S T) : T < 2 ^ 60 := by
  obtain ⟨t1, h1, h2⟩ := hT
  have nb := h.n
  have B0 : 0 ≤ D.1 * S.2 := Int.mul_nonneg h.d0 (by have := h.s.fr.1; omega)
  by_cases c : T = 1
  · omega
  · have h2 := h2 (by omega)
    rw [Int.mul_assoc] at h2
    have m1 : T ≤ T * (T - 1) := by
      have := Int.mul_le_mul_of_nonneg_left (show 1 ≤ T - 1 by omega) (show 0 ≤ T by omega)
      omega
    have s1 : 1 ≤ D.1 * S.2 := by
      rcases Int.lt_or_le 0 (D.1 * S.2) with z | z
      · omega
      · have e : D.1 * S.2 = 0 := by omega
        rw [e] at h1 h2
        simp at h1 h2
        omega
    have m2 := Int.mul_le_mul_of_nonneg_right s1 (show 0 ≤ T * (T - 1) by omega)
    omega
section
variable {P : Program} {w : World} {K : PySem.W.Frag} {mg : Str → Option Value} {base : Heap}
theorem ok_l_far_pull (B : Bt mg) (D_l_phi : Has P w K mg base 4 "_law_phi" ["bounds", "t"] (SpQ K rPhi)) (D_l_is_below : Has P w K mg base 1 "_law_is_below" ["one", "other"] (SpQ K rBelow)) (T : Stands K mg "_law_far_pull" s_l_far_pull ["bounds", "over"]) : Has P w K mg base 5 "_law_far_pull" ["bounds", "over"] (SpQ K rFarP) := by
  refine hasQ T sc_l_far_pull (fun ds po ⟨c, D, S, lo, most, le, v, e, _⟩ => by rw [e]; rfl) 8 rfl fun f cdv A outer s H E g hr => ⟨_, (pss_cons (ps_par3 (i := 2) (j := 3) (l := 4) (by rfl) sc_l_far_pull.nd rfl rfl rfl (by decide) (by decide) (by decide) rfl rfl rfl (pa_cons (pe_ix ix_tup (pv 0) pe_int (fun _ _ => rfl)) (pa_cons (pe_ix ix_tup (pv 0) pe_int (fun _ _ => rfl)) (pa_cons (pe_lst pa_nil) pa_nil))) (by rfl))
      (pss_cons (ps_if (pt_cmpR op_le (pe_op op_mulA (pe_ix ix_tup (pv 0) pe_int (fun _ _ => rfl)) (pv 3)) (pv 1) (nomark _)) (pss_one (ps_expr (pe_bm PySem.F.plainAttrs_list PySem.F.slot_list_append PySem.F.type_list_append mt_append (pv 4) (pa_cons (peD D_l_phi g hr (by first | decide | exact Nat.le_refl _ | omega) (by rfl) (pa_cons (pv 0) (pa_cons (pe_op op_mulA (pe_ix ix_tup (pv 0) pe_int (fun _ _ => rfl)) (pv 3)) pa_nil))) pa_nil)))) pss_nil)
      (pss_cons (ps_for PassesOwn.never rfl (pi_range2 (by rfl) B.b_range (pa_cons (pe_callB (call_max2 rfl) (by rfl) B.b_max (by decide +kernel) (pa_cons pe_int (pa_cons (pe_op op_add (pe_op op_sub (pv 1) (pv 3)) pe_int) pa_nil))) (pa_cons (pe_op op_add (pv 1) pe_int) pa_nil))) (pg_name (i := 5) sc_l_far_pull.nd rfl (by first | exact .inl rfl | exact .inr rfl)) (pss_cons (ps_set (i := 6) sc_l_far_pull.nd rfl (by first | exact .inl rfl | exact .inr rfl) (peD D_l_phi g hr (by first | decide | exact Nat.le_refl _ | omega) (by rfl) (pa_cons (pv 0) (pa_cons (pe_op op_add (pv 5) (pv 3)) pa_nil))))
      (pss_one (ps_if (pt_cmpR op_eq (pv 5) pe_int (nomark _)) (pss_one (ps_expr (pe_bm PySem.F.plainAttrs_list PySem.F.slot_list_append PySem.F.type_list_append mt_append (pv 4) (pa_cons (pv 6) pa_nil)))) (pss_one (ps_if (pt_cmpR op_le (pe_op op_divA (pe_op op_sub (pe_op op_add (pv 5) (pv 3)) pe_int) (pv 3)) (pe_op op_divA (pv 5) (pv 2)) (nomark _)) (pss_cons (ps_set (i := 7) sc_l_far_pull.nd rfl (by first | exact .inl rfl | exact .inr rfl) (peD D_l_phi g hr (by first | decide | exact Nat.le_refl _ | omega) (by rfl) (pa_cons (pv 0) (pa_cons (pv 5) pa_nil))))
      (pss_one (ps_expr (pe_bm PySem.F.plainAttrs_list PySem.F.slot_list_append PySem.F.type_list_append mt_append (pv 4) (pa_cons (pe_ifExp (pt_val (peD D_l_is_below g hr (by first | decide | exact Nat.le_refl _ | omega) (by rfl) (pa_cons (pv 7) (pa_cons (pv 6) pa_nil)))) (pv 7) (pv 6)) pa_nil))))) pss_nil))))))
      (pss_cons (ps_set (i := 8) sc_l_far_pull.nd rfl (by first | exact .inl rfl | exact .inr rfl) (pe_ix ix_list (pv 4) pe_int (fun _ _ => rfl)))
      (pss_cons (ps_for PassesOwn.never rfl (pi_list (pv 4)) (pg_name (i := 9) sc_l_far_pull.nd rfl (by first | exact .inl rfl | exact .inr rfl)) (pss_one (ps_set (i := 8) sc_l_far_pull.nd rfl (by first | exact .inl rfl | exact .inr rfl) (pe_ifExp (pt_val (peD D_l_is_below g hr (by first | decide | exact Nat.le_refl _ | omega) (by rfl) (pa_cons (pv 8) (pa_cons (pv 9) pa_nil)))) (pv 9) (pv 8)))))
      (pss_one (ps_ret (pv 8)))))))), ?_⟩
  try dsimp only [cxOf]
  rintro ds po ⟨c, D, S, lo, most, le, v, rfl, hB, v0, v1, hT, rfl⟩
  have e1 := hB.e1
  have e8 := hB.e8
  have l1 := hB.l1
  have l2 := hB.l2
  have l3 := hB.l3
  have okE : IntMulOk (le : Int) (most : Int) := Bd.ok (j := 71) (k := 20) (by show ((le : Nat) : Int).natAbs < 2 ^ 71; omega) (by show (most : Int).natAbs < 2 ^ 20; omega) (by decide) (by decide) (by decide)
  have hU := qphi_uni (S := S) hB.d.fr.1 hB.s.fr.1 hB.d0 hT
  have rm := fun {u : Int} (h : 0 ≤ u) => reach_law (u := u) l1 l2 h
  have hx : (le : Int) * (most : Int) = ((le * most : Nat) : Int) := (Int.natCast_mul ..).symm
  have hp : 1 ≤ le * most := Nat.mul_pos (by omega) (by omega)
  have hle : le * most ≤ 2 ^ 70 * 16 := Nat.mul_le_mul (by omega) (by omega)
  have bm : Bd 20 (most : Int) := by show (most : Int).natAbs < 2 ^ 20; omega
  have bl : Bd 20 (lo : Int) := by show (lo : Int).natAbs < 2 ^ 20; omega
  have gm := bm.div (by decide) (by decide)
  have gl := bl.div (by decide) (by decide)
  repeat' (first | refine o_mul okE ?_ | walk_at "yy")
  intro p hp0
  have mx : (if v - (most : Int) + 1 > 0 then v - (most : Int) + 1 else 0) = v - most + 1 := by rw [if_pos (by omega)]
  have f1 := qphi_fq hB (t := (le : Int) * (most : Int)) (by omega) (by omega)
  have cp1 : ∀ {Q : Ent → MM → Prop} {M : MM}, Q (.dat (frq (qphi D S ((le : Int) * (most : Int))))) M → Cb K (fun vs H Q => SpQ K rPhi vs H Q E0) [.dat (bdQ c D S lo most le), .dat (.int ((le : Int) * (most : Int)))] M Q := fun p => c_phi hB (by omega) (by omega) p
  repeat' (first | refine o_mul okE ?_ | walk_at "yy")
  case' refine_1 => (
    refine ⟨ty_ref (List.Mem.head _), ?_⟩
    repeat' (first | refine o_mul okE ?_ | refine cp1 ?_ | walk_at "yy")
    refine m_append (Ma := []) (Mb := []) rfl (by simp) ?_
    generalize hfs0 : [qphi D S ((le : Int) * (most : Int))] = fs0
    have hle2 := of_decide_eq_true ‹decide ((le : Int) * (most : Int) ≤ v) = true›
    have hfs : ∀ q ∈ fs0, FqQ 250 q ∧ IsLeap (qphi D S) lo most le v q := fun q hq => by
      rw [← hfs0] at hq
      rw [List.mem_singleton.mp hq]
      exact ⟨f1, .inl ⟨by omega, by rw [hx]⟩⟩
    have hin : ((le * most : Nat) : Int) ≤ v → qphi D S ((le * most : Nat) : Int) ∈ fs0 := fun _ => by
      rw [← hfs0, hx]
      exact List.mem_singleton.mpr rfl
    have hl0 : fs0.length ≤ 1 := by rw [← hfs0]; simp
    have hM : [] ++ (p, MO.lst (([] : List PyData) ++ [frq (qphi D S ((le : Int) * (most : Int)))])) :: [] = [(p, MO.lst (frs fs0))] := by rw [← hfs0]; rfl)
  case' refine_2 => (
    generalize hfs0 : ([] : List (Int × Int)) = fs0
    have hle2 := of_decide_eq_false ‹decide ((le : Int) * (most : Int) ≤ v) = false›
    have hfs : ∀ q ∈ fs0, FqQ 250 q ∧ IsLeap (qphi D S) lo most le v q := fun q hq => by
      rw [← hfs0] at hq
      cases hq
    have hin : ((le * most : Nat) : Int) ≤ v → qphi D S ((le * most : Nat) : Int) ∈ fs0 := fun h => absurd h (by omega)
    have hl0 : fs0.length ≤ 1 := by rw [← hfs0]; simp
    have hM : [] ++ [(p, MO.lst ([] : List PyData))] = [(p, MO.lst (frs fs0))] := by rw [← hfs0]; rfl)
  all_goals (
    first | refine sj_seq ?_ | skip
    rw [hM]
    refine sj_for ?_
    repeat' walk_at "yy"
    rw [mx]
    refine ⟨by omega, ?_⟩
    rw [show (v + 1 - (v - (most : Int) + 1)).toNat = most by omega]
    refine ⟨fun k es M => ∃ e5 e6 e7 fs, es = [.dat (bdQ c D S lo most le), .dat (.int v), .dat (.int (lo : Int)), .dat (.int (most : Int)), .ref p, e5, e6, e7, .no, .no] ∧ (∀ q ∈ fs, FqQ 250 q ∧ IsLeap (qphi D S) lo most le v q) ∧ fs.length ≤ k + 1 ∧ (((le * most : Nat) : Int) ≤ v → qphi D S ((le * most : Nat) : Int) ∈ fs) ∧ (∀ x : Int, v < x + most → x ≤ v - most + k → Reach lo most x → minq (qphi D S x) (qphi D S (x + most)) ∈ fs) ∧ M = [(p, .lst (frs fs))], ⟨.no, .no, .no, fs0, rfl, hfs, hl0, hin, (fun x a b => by omega), rfl⟩, ?_, ?_⟩
    · rintro k d es M hd ⟨e5, e6, e7, fs, rfl, hf, hl, hi, hm, rfl⟩
      obtain ⟨hk, rfl⟩ := rgD_at hd
      generalize hx0 : v - (most : Int) + 1 + (k : Int) = x
      have fb := qphi_fq hB (t := x + (most : Int)) (by omega) (by omega)
      have cb : ∀ {Q : Ent → MM → Prop} {M : MM}, Q (.dat (frq (qphi D S (x + (most : Int))))) M → Cb K (fun vs H Q => SpQ K rPhi vs H Q E0) [.dat (bdQ c D S lo most le), .dat (.int (x + (most : Int)))] M Q := fun p => c_phi hB (by omega) (by omega) p
      have fh := qphi_fq hB (t := x) (by omega) (by omega)
      have ch : ∀ {Q : Ent → MM → Prop} {M : MM}, Q (.dat (frq (qphi D S x))) M → Cb K (fun vs H Q => SpQ K rPhi vs H Q E0) [.dat (bdQ c D S lo most le), .dat (.int x)] M Q := fun p => c_phi hB (by omega) (by omega) p
      have put : Reach lo most x → ∀ z, z = minq (qphi D S x) (qphi D S (x + (most : Int))) → (∀ q ∈ fs ++ [z], FqQ 250 q ∧ IsLeap (qphi D S) lo most le v q) ∧ (((le * most : Nat) : Int) ≤ v → qphi D S ((le * most : Nat) : Int) ∈ fs ++ [z]) ∧ (∀ y : Int, v < y + most → y ≤ v - most + (k + 1 : Nat) → Reach lo most y → minq (qphi D S y) (qphi D S (y + most)) ∈ fs ++ [z]) := fun hr z hz => by
        subst hz
        refine ⟨fun q hq => ?_, fun h => List.mem_append_left _ (hi h), fun y a b ry => ?_⟩
        · rcases List.mem_append.mp hq with hq | hq
          · exact hf q hq
          · rw [List.mem_singleton.mp hq]
            exact ⟨minq_fq fh fb, .inr (.inr ⟨x, by omega, by omega, by omega, hr, rfl⟩)⟩
        · by_cases e : y = x
          · subst e
            exact List.mem_append_right _ (List.mem_singleton.mpr rfl)
          · exact List.mem_append_left _ (hm y a (by omega) ry)
      have keep : ¬ Reach lo most x → ∀ y : Int, v < y + most → y ≤ v - most + (k + 1 : Nat) → Reach lo most y → minq (qphi D S y) (qphi D S (y + most)) ∈ fs := fun hr y a b ry => by
        by_cases e : y = x
        · subst e
          exact absurd ry hr
        · exact hm y a (by omega) ry
      have rx := rm (u := x) (by omega)
      generalize qphi D S (x + (most : Int)) = qb at fb cb put
      generalize qphi D S x = qh at fh ch put
      repeat' (first | refine cb ?_ | refine ch ?_ | refine o_div (show (0 : Int) < most by omega) gm ?_ | refine o_div (show (0 : Int) < lo by omega) gl ?_ | refine c_below (fh.up (by decide)) (fb.up (by decide)) ?_ | exact absurd (of_decide_eq_true ‹decide (x = 0) = true›) (by omega) | refine ⟨ty_ref (List.Mem.head _), ?_⟩ | walk_at "yy")
      · refine m_append (Ma := []) (Mb := []) rfl (by rw [frs_len]; omega) ?_
        have hr := rx.mpr (of_decide_eq_true ‹decide ((x + (most : Int) - 1) / (most : Int) ≤ x / (lo : Int)) = true›)
        obtain ⟨p1, p2, p3⟩ := put hr qh (minq_is fh fb (.inl rfl) (leq_refl _) (below_leq ‹belowB qh qb = true›))
        exact ⟨_, _, _, fs ++ [qh], rfl, p1, by rw [List.length_append]; simp only [List.length_singleton]; omega, p2, p3, by rw [frs_app]; rfl⟩
      · refine m_append (Ma := []) (Mb := []) rfl (by rw [frs_len]; omega) ?_
        have hr := rx.mpr (of_decide_eq_true ‹decide ((x + (most : Int) - 1) / (most : Int) ≤ x / (lo : Int)) = true›)
        obtain ⟨p1, p2, p3⟩ := put hr qb (minq_is fh fb (.inr rfl) (below_not ‹belowB qh qb = false›) (leq_refl _))
        exact ⟨_, _, _, fs ++ [qb], rfl, p1, by rw [List.length_append]; simp only [List.length_singleton]; omega, p2, p3, by rw [frs_app]; rfl⟩
      · have hr := fun h => of_decide_eq_false ‹decide ((x + (most : Int) - 1) / (most : Int) ≤ x / (lo : Int)) = false› (rx.mp h)
        exact ⟨_, _, _, fs, rfl, hf, by omega, hi, keep hr, rfl⟩
    · rintro es M ⟨e5, e6, e7, fs, rfl, hf, hl, hi, hm, rfl⟩
      rw [rgD_len] at hl hm
      have hn : fs ≠ [] := by
        obtain ⟨u, a, b, c1, r⟩ := reach_in (lo := lo) (most := most) l2 (by omega) (T := v) (by omega)
        have := hm u b (by omega) r
        intro e
        rw [e] at this
        cases this
      obtain ⟨q0, r, rfl⟩ := cons_of hn
      refine sj_fast [] [] rfl hp0 (.keep (.keep (.keep (.keep (.hit (.keep (.keep (.keep (.keep (.keep .nil)))))))))) ?_
      repeat' (first | refine o_ixL (atI_nat (j := 0) rfl) ?_ | walk_at "yy")
      refine sj_for ?_
      repeat' walk_at "yy"
      refine ⟨fun k es M => ∃ q e9, es = [.dat (bdQ c D S lo most le), .dat (.int v), .dat (.int (lo : Int)), .dat (.int (most : Int)), .dat (.list (frs (q0 :: r))), e5, e6, e7, .dat (frq q), e9] ∧ q ∈ q0 :: r ∧ (∀ p ∈ (q0 :: r).take k, leq p q) ∧ M = [], ⟨q0, .no, rfl, List.mem_cons_self .., (fun p h => by simp at h), rfl⟩, ?_, ?_⟩
      · rintro k d es M hd ⟨q, e9, rfl, hq, hb, rfl⟩
        obtain ⟨q1, ha1, hm1, rfl⟩ := frs_at hd
        have h1 := (hf q1 hm1).1
        have h2 := (hf q hq).1
        repeat' (first | refine c_below (Fq.up h2 (by decide)) (Fq.up h1 (by decide)) ?_ | walk_at "yy")
        · refine ⟨hm1, fun p hp => ?_, rfl⟩
          rw [take_snoc ha1] at hp
          rcases List.mem_append.mp hp with z | z
          · exact leq_trans (hf p (List.mem_of_mem_take z)).1.fr.1 h2.fr.1 h1.fr.1 (hb p z) (below_leq ‹belowB q q1 = true›)
          · rw [List.mem_singleton.mp z]; exact leq_refl _
        · refine ⟨hq, fun p hp => ?_, rfl⟩
          rw [take_snoc ha1] at hp
          rcases List.mem_append.mp hp with z | z
          · exact hb p z
          · rw [List.mem_singleton.mp z]; exact below_not ‹belowB q q1 = false›
      · rintro es M ⟨q, e9, rfl, hq, hb, rfl⟩
        have hb2 : ∀ p ∈ q0 :: r, leq p q := fun p hp => hb p (by
          rw [List.take_of_length_le (by rw [frs_len]; exact Nat.le_refl _)]
          exact hp)
        repeat' walk_at "yy"
        refine ⟨(hf q hq).1, (hf q hq).2, fun p hp => hb2 p ?_⟩
        rcases hp with ⟨a, rfl⟩ | ⟨a, rfl⟩ | ⟨u, a, b, c1, ru, rfl⟩
        · exact hi a
        · omega
        · exact hm u b (by omega) ru)
end
end K34

set_option Elab.async false
set_option linter.all false
set_option maxRecDepth 100000
set_option maxHeartbeats 1000000
set_option exponentiation.threshold 20000
namespace K34
open PySem PySem.Spec PyProof.Rows L2 Yw
local macro_rules | `(tactic| walk_at "ye") => `(tactic| first
  | ((with_reducible show Ev _ (tVar _) _ _ _); first | refine ev_dat rfl ?_ | refine ev_ref rfl ?_ | refine ev_var rfl (fun z => nomatch z) ?_)
  | ((with_reducible show Ev _ (tC _) _ _ _); first | with_reducible refine ev_int ?_ | with_reducible refine ev_bl ?_ | with_reducible refine ev_non ?_ | with_reducible refine ev_str ?_ | with_reducible refine ev_ty ?_)
  | with_reducible refine ev_op ?_
  | with_reducible refine ev_un ?_
  | with_reducible refine ev_go ?_
  | with_reducible refine ev_cb ?_
  | with_reducible refine ev_tupD ?_
  | with_reducible refine ev_lstD ?_
  | with_reducible refine ev_chain ?_
  | with_reducible refine ev_if ?_
  | with_reducible refine ev_andV ?_
  | with_reducible refine ev_orV ?_
  | with_reducible refine ev_notV ?_
  | with_reducible refine ev_sl ?_
  | with_reducible refine ev_bm ?_)
local macro_rules | `(tactic| walk_at "ya") => `(tactic| first
  | with_reducible refine ea_cons ?_
  | with_reducible refine ea_nil ?_
  | with_reducible refine eo_none ?_
  | with_reducible refine eo_some ?_
  | with_reducible refine et_test ?_
  | with_reducible refine et_B ?_
  | with_reducible refine et_and ?_
  | with_reducible refine et_or ?_
  | with_reducible refine et_not ?_
  | with_reducible refine et_yes ?_
  | with_reducible refine tg_name ?_
  | with_reducible refine tgs_nil ?_
  | with_reducible refine tgs_cons ?_
  | ((with_reducible show Tg _ (gTup _ _ _) _ _ _ _); refine tg_tup rfl ?_)
  | with_reducible refine tg_sub ?_)
local macro_rules | `(tactic| walk_at "ys") => `(tactic| first
  | with_reducible refine sj_seq ?_
  | with_reducible refine sj_next ?_
  | with_reducible refine sj_newD ?_
  | with_reducible refine sj_set ?_
  | with_reducible refine sj_par ?_
  | with_reducible refine sj_ret ?_
  | with_reducible refine sj_drop ?_
  | with_reducible refine sj_if ?_
  | with_reducible refine sj_asg ?_
  | with_reducible refine sj_augS ?_
  | with_reducible refine iw_seq ?_
  | with_reducible refine iw_zip ?_
  | with_reducible refine iw_list ?_
  | with_reducible refine iw_tup ?_
  | with_reducible refine iw_r1 ?_
  | with_reducible refine iw_r2 ?_
  | with_reducible refine iw_enumT ?_)
local macro_rules | `(tactic| walk_at "yo") => `(tactic| first
  | with_reducible refine o_int ?_
  | with_reducible refine o_bool ?_
  | with_reducible refine o_mul (by first | exact mulR ⟨by decide, by decide⟩ | exact mulL ⟨by decide, by decide⟩) ?_
  | with_reducible refine o_mul ?_ ?_
  | with_reducible refine o_mod (by decide) ?_
  | with_reducible refine o_mod ?_ ?_
  | with_reducible refine o_div (by decide) (by decide +kernel) ?_
  | with_reducible refine o_cat ?_ ?_
  | with_reducible refine o_catT ?_ ?_
  | ((with_reducible show Op2 _ (rIxL _) (Ent.ref _) _ _ _); refine o_ixM (List.Mem.head _) rfl ?_)
  | with_reducible refine o_eqI ?_
  | with_reducible refine o_neI ?_
  | with_reducible refine o_eqS ?_
  | with_reducible refine o_neS ?_
  | with_reducible refine o_neg ?_
  | ((with_reducible show Op2 _ (rIxT _) _ _ _ _); refine o_ixT rfl ?_)
  | ((with_reducible show Op2 _ (rIxL _) (Ent.dat _) _ _ _); refine o_ixL rfl ?_)
  | ((with_reducible show Op2 _ (rI CPow _) _ _ _ _); refine o_pow ⟨by decide, by decide, by decide⟩ rfl ?_)
  | with_reducible refine c_abs ?_
  | with_reducible refine c_int ?_
  | with_reducible refine c_min2 ?_
  | with_reducible refine c_max2 ?_
  | with_reducible refine c_gcd ?_
  | with_reducible refine sl_L ?_
  | with_reducible refine c_len (.lst _) ?_
  | with_reducible refine c_len (.tup _) ?_)
local macro_rules | `(tactic| walk_at "yx") => `(tactic| first
  | with_reducible refine ⟨_, rfl, ?_⟩
  | with_reducible refine ⟨_, _, rfl, ?_⟩
  | with_reducible refine ⟨fun _ => ?_, fun _ => ?_⟩
  | ((with_reducible show ∃ _ _ _ _ _ _, _ = _ ∧ _ = _ ∧ _ = _ ∧ _ = _ ∧ _); refine ⟨[], _, _, _, _, _, rfl, rfl, rfl, rfl, ?_⟩)
  | ((with_reducible show ∃ _ _ _ _ _, _ = _ ∧ _ = _ ∧ _ ∧ _ ∧ _ ∧ _ = _ ∧ _ = _ ∧ _); refine ⟨_, _, _, _, _, rfl, rfl, List.Mem.head _, by decide, by decide, rfl, rfl, ?_⟩)
  | ((with_reducible show ∃ _ _ _, _ = _ ∧ _ = _ ∧ _); refine ⟨[], _, _, rfl, rfl, ?_⟩)
  | ((with_reducible show ∃ _, Ds _ _ ∧ _ ∧ _); refine ⟨_, (by repeat (first | exact Ds.nil | apply Ds.cons)), (by simp), ?_⟩))
local macro_rules | `(tactic| walk_at "yy") => `(tactic| first | walk_at "ye" | walk_at "ya" | walk_at "ys" | walk_at "yo" | walk_at "yx" | walk_at "yc")

local macro_rules | `(tactic| walk_at "ys") => `(tactic| first | with_reducible refine sj_par3L ?_ | with_reducible refine sj_parD0 ?_)
local macro_rules | `(tactic| walk_at "yc") => `(tactic| first | with_reducible refine ev_dget ?_ | with_reducible refine ev_din ?_ | with_reducible refine ev_dnotin ?_ | with_reducible refine sj_dput ?_)
def rPullL : RR := fun ds po => ∃ c D S lo most le, ds = [bdQ c D S lo most le] ∧ Bq D S lo most le ∧ (∀ T, IsTurnT D S T → T ≤ 40 → le ≤ 1000) ∧ po = fun r => ∃ q, r = frq q ∧ IsPullB D S lo most le q
/-- what is known of a number of cells -/
def OkV (D S : Int × Int) (lo most le : Nat) (T : Int) (k : Nat) (q : Int × Int) : Prop := FqQ 250 q ∧ ((k : Int) ≤ T → q = qphi D S (k : Int)) ∧ (T < (k : Int) → Low (qphi D S) lo most le T q)
structure KnV (D S : Int × Int) (lo most le : Nat) (T : Int) (c b : Nat) (kvs : KVs) : Prop where
  keys : KeysIn 100 kvs
  zero : valD kvs (.inl ((0 : Nat) : Int)) = some .none
  has : ∀ k : Nat, 1 ≤ k → k < c → Reach lo most (k : Int) → ∃ q, valD kvs (.inl (k : Int)) = some (frq q)
  val : ∀ (k : Nat) (d : PyData), 1 ≤ k → valD kvs (.inl (k : Int)) = some d → k < b ∧ Reach lo most (k : Int) ∧ ∃ q, d = frq q ∧ OkV D S lo most le T k q
def BestV (D S : Int × Int) (lo most le : Nat) (T : Int) (c : Nat) (q : Int × Int) : Prop := FqQ 250 q ∧ Low (qphi D S) lo most le T q ∧ (T < (most : Int) → leq (qphi D S (most : Int)) q) ∧ (((le * most : Nat) : Int) ≤ T → leq (qphi D S ((le * most : Nat) : Int)) q) ∧ ∀ a : Nat, 1 ≤ a → a < c → Reach lo most (a : Int) → T < (a : Int) + most → (a : Int) ≤ T → leq (minq (qphi D S (a : Int)) (qphi D S ((a : Int) + most))) q
section
variable {D S : Int × Int} {lo most le : Nat} {T : Int}
theorem KnV.start {b : Nat} : KnV D S lo most le T 1 b [(.inl 0, .none)] := by
  have hv : ∀ k : Nat, 1 ≤ k → valD [(.inl 0, .none)] (.inl (k : Int)) = none := fun k hk => by
    rw [valD_cons, if_neg (fun e => by have := Sum.inl.inj e; omega)]
    rfl
  refine ⟨KnOk.start (by decide) |>.1, ?_, fun k a b => by omega, fun k d a e => ?_⟩
  · rw [valD_cons]
    exact if_pos rfl
  · rw [hv k a] at e
    cases e
theorem KnV.put {c b : Nat} {kvs : KVs} (h : KnV D S lo most le T c b kvs) {i : Nat} (h1 : 1 ≤ i) (hi : i < 100) (hb : i < b) (hr : Reach lo most (i : Int)) {q : Int × Int} (hq : OkV D S lo most le T i q) : KnV D S lo most le T c b (putD kvs (.inl (i : Int)) (frq q)) ∧ valD (putD kvs (.inl (i : Int)) (frq q)) (.inl (i : Int)) = some (frq q) := by
  have hv := valD_put kvs (.inl (i : Int)) (.inl (i : Int)) (frq q)
  rw [if_pos rfl] at hv
  refine ⟨⟨h.keys.put hi _, ?_, fun k a b r => ?_, fun k d a e => ?_⟩, hv⟩
  · rw [valD_put, if_neg (fun e => by have := Sum.inl.inj e; omega)]
    exact h.zero
  · by_cases e : k = i
    · subst e; exact ⟨q, hv⟩
    · rw [valD_put, if_neg (fun z => e (by have := Sum.inl.inj z; omega))]
      exact h.has k a b r
  · by_cases z : k = i
    · subst z
      rw [hv] at e
      cases e
      exact ⟨hb, hr, q, rfl, hq⟩
    · rw [valD_put, if_neg (fun y => z (by have := Sum.inl.inj y; omega))] at e
      exact h.val k d a e
theorem KnV.grow {c b b2 : Nat} {kvs : KVs} (h : KnV D S lo most le T c b kvs) (hb : b ≤ b2) : KnV D S lo most le T c b2 kvs := ⟨h.keys, h.zero, h.has, fun k d a e => by
  obtain ⟨x, y, z⟩ := h.val k d a e
  exact ⟨by omega, y, z⟩⟩
theorem KnV.next {c : Nat} {kvs : KVs} (h : KnV D S lo most le T c (c + 1) kvs) (hc : 1 ≤ c) (hn : Reach lo most (c : Int) → ∃ q, valD kvs (.inl (c : Int)) = some (frq q)) : KnV D S lo most le T (c + 1) (c + 1) kvs := ⟨h.keys, h.zero, fun k a b r => by
  by_cases e : k = c
  · subst e; exact hn r
  · exact h.has k a (by omega) r, h.val⟩
/-- one run more: behind nothing -/
theorem ok_first (hU : Uni (qphi D S) T) (hm : 1 ≤ most) {c : Nat} (h1 : 1 ≤ c) (hc : c ≤ most) (hf : FqQ 250 (qphi D S (c : Int))) : OkV D S lo most le T c (qphi D S (c : Int)) := ⟨hf, fun _ => rfl, fun h => low_cross hU hm hf.fr.1 (Reach.zero lo most) (by have := hU.t1; omega) h (by omega) (fun z => absurd z (by decide)) (leq_refl _)⟩
theorem ok_more (hU : Uni (qphi D S) T) (hm : 1 ≤ most) (hle1 : 1 ≤ le) {a c : Nat} (h1 : 1 ≤ a) (hac : a < c) (hc : c ≤ a + most) (ra : Reach lo most (a : Int)) {qa : Int × Int} (ha : OkV D S lo most le T a qa) (hf : FqQ 250 (qphi D S (c : Int))) : (leq (qphi D S (c : Int)) qa → OkV D S lo most le T c (qphi D S (c : Int))) ∧ (leq qa (qphi D S (c : Int)) → OkV D S lo most le T c qa) := by
  obtain ⟨fa, va, la⟩ := ha
  refine ⟨fun hle => ⟨hf, fun _ => rfl, fun ht => ?_⟩, fun hle => ⟨fa, fun ht => ?_, fun ht => ?_⟩⟩
  · by_cases at' : (a : Int) ≤ T
    · have e := va at'
      subst e
      exact low_cross hU hm hf.fr.1 ra at' ht (by omega) (fun _ => hle) (leq_refl _)
    · obtain ⟨p, hp, hl⟩ := la (by omega)
      exact ⟨p, hp, leq_trans hf.fr.1 fa.fr.1 (leap_pos hU hm hle1 hp) hle hl⟩
  · have e := va (by omega)
    subst e
    exact leq_same fa hf hle (hU.dec _ _ (by omega) (by omega) ht)
  · by_cases at' : (a : Int) ≤ T
    · have e := va at'
      subst e
      exact low_cross hU hm fa.fr.1 ra at' ht (by omega) (fun _ => leq_refl _) hle
    · exact la (by omega)
theorem best_start (hU : Uni (qphi D S) T) (hlm : lo ≤ most) (hm : 1 ≤ most) (hl : 1 ≤ le) {q : Int × Int} (h : IsLeadS D S most le 0 none q) : BestV D S lo most le T 1 q := by
  obtain ⟨hf, ho, _, hj⟩ := h
  have hin : ∃ j : Nat, 1 ≤ j ∧ j ≤ le ∧ q = qphi D S ((j * most : Nat) : Int) := by
    rcases ho with z | ⟨j, a, b, e⟩
    · cases z
    · refine ⟨j, a, b, ?_⟩
      rw [e]
      unfold gq
      rw [Int.zero_add]
  obtain ⟨j, a, b, e⟩ := hin
  refine ⟨hf, low_lead hU hlm hm hl hf.fr.1 (Reach.zero lo most) (by have := hU.t1; omega) (fun z => absurd z (by decide)) hj, fun ht => ?_, fun ht => ?_, fun x x1 x2 => by omega⟩
  · rw [e]; exact most_le hU hm ht j a
  · rw [e]; exact lead_le hU hm ht j a b
/-- the strain behind c cells -/
theorem lead_ok (hU : Uni (qphi D S) T) (hlm : lo ≤ most) (hm : 1 ≤ most) (hl : 1 ≤ le) {c : Nat} (h1 : 1 ≤ c) (rc : Reach lo most (c : Int)) {q2 q : Int × Int} (h2 : OkV D S lo most le T c q2) (h : IsLeadS D S most le (c : Int) (some q2) q) : Low (qphi D S) lo most le T q ∧ (T < (c : Int) + most → (c : Int) ≤ T → leq (minq (qphi D S (c : Int)) (qphi D S ((c : Int) + most))) q) := by
  obtain ⟨hf, ho, hle, hj⟩ := h
  have hq2 := hle q2 rfl
  refine ⟨?_, fun ht hc => ?_⟩
  · by_cases ct : (c : Int) ≤ T
    · have e := h2.2.1 ct
      exact low_lead hU hlm hm hl hf.fr.1 rc ct (fun _ => by rw [← e]; exact hq2) hj
    · obtain ⟨p, hp, hpl⟩ := h2.2.2 (by omega)
      exact ⟨p, hp, leq_trans hf.fr.1 h2.1.fr.1 (leap_pos hU hm hl hp) hq2 hpl⟩
  · rcases ho with z | ⟨j, a, b, e⟩
    · cases z
      rw [h2.2.1 hc]
      exact minq_l
    · rw [e]
      exact leap_le hU hm (by omega) ht hc j a
theorem BestV.skip {c : Nat} {q : Int × Int} (h : BestV D S lo most le T c q) (hn : ¬ Reach lo most (c : Int)) : BestV D S lo most le T (c + 1) q := ⟨h.1, h.2.1, h.2.2.1, h.2.2.2.1, fun a a1 a2 r x y => by
  by_cases e : a = c
  · subst e; exact absurd r hn
  · exact h.2.2.2.2 a a1 (by omega) r x y⟩
theorem BestV.keep {c : Nat} {q p : Int × Int} (h : BestV D S lo most le T c q) (h1 : T < (c : Int) + most → (c : Int) ≤ T → leq (minq (qphi D S (c : Int)) (qphi D S ((c : Int) + most))) p) (hp : 0 < p.2) (hm : 0 < (minq (qphi D S (c : Int)) (qphi D S ((c : Int) + most))).2) (hle : leq p q) : BestV D S lo most le T (c + 1) q := ⟨h.1, h.2.1, h.2.2.1, h.2.2.2.1, fun a a1 a2 r x y => by
  by_cases e : a = c
  · subst e; exact leq_trans hm hp h.1.fr.1 (h1 x y) hle
  · exact h.2.2.2.2 a a1 (by omega) r x y⟩
theorem BestV.take (hU : Uni (qphi D S) T) (hm1 : 1 ≤ most) (hl : 1 ≤ le) {c : Nat} {q p : Int × Int} (h : BestV D S lo most le T c q) (h1 : T < (c : Int) + most → (c : Int) ≤ T → leq (minq (qphi D S (c : Int)) (qphi D S ((c : Int) + most))) p) (hp : FqQ 250 p) (hlow : Low (qphi D S) lo most le T p) (hle : leq q p) : BestV D S lo most le T (c + 1) p := ⟨hp, hlow, fun z => leq_trans (hU.pos _ (by omega)) h.1.fr.1 hp.fr.1 (h.2.2.1 z) hle, fun z => leq_trans (hU.pos _ (by have := Nat.mul_pos hl hm1; omega)) h.1.fr.1 hp.fr.1 (h.2.2.2.1 z) hle, fun a a1 a2 r x y => by
  by_cases e : a = c
  · subst e; exact h1 x y
  · exact leq_trans (leap_pos hU hm1 hl (.inr (.inr ⟨a, by omega, x, y, r, rfl⟩))) h.1.fr.1 hp.fr.1 (h.2.2.2.2 a a1 (by omega) r x y) hle⟩
theorem best_end (hB : Bq D S lo most le) (hT : T < 2 ^ 60) {c : Nat} (hc : T < (c : Int)) {q : Int × Int} (h : BestV D S lo most le T c q) : IsPull (qphi D S) lo most le T q := by
  obtain ⟨hf, ⟨p, hp, hl⟩, h1, h2, h3⟩ := h
  have all : ∀ p, IsLeap (qphi D S) lo most le T p → leq p q := fun p hp => by
    rcases hp with ⟨a, rfl⟩ | ⟨a, rfl⟩ | ⟨u, a, b, c1, r, rfl⟩
    · exact h2 a
    · exact h1 a
    · obtain ⟨n, rfl⟩ : ∃ n : Nat, u = (n : Int) := ⟨u.toNat, by omega⟩
      exact h3 n (by omega) (by omega) r b c1
  have e : q = p := leq_same hf (leap_fq hB (by omega) hp) hl (all p hp)
  exact ⟨by rw [e]; exact hp, all⟩
end
section
variable {P : Program} {w : World} {K : PySem.W.Frag} {mg : Str → Option Value} {base : Heap}
theorem ok_l_pull (B : Bt mg) (D_l_turn : Has P w K mg base 1 "_law_turn" ["bounds"] (SpQ K rTurn)) (D_l_phi : Has P w K mg base 4 "_law_phi" ["bounds", "t"] (SpQ K rPhi)) (D_l_far_pull : Has P w K mg base 5 "_law_far_pull" ["bounds", "over"] (SpQ K rFarP)) (D_l_lead_strain : Has P w K mg base 5 "_law_lead_strain" ["bounds", "cells", "least"] (SpQ K rLeadS)) (D_l_is_below : Has P w K mg base 1 "_law_is_below" ["one", "other"] (SpQ K rBelow)) (T : Stands K mg "_law_pull" s_l_pull ["bounds"]) : Has P w K mg base 6 "_law_pull" ["bounds"] (SpQ K rPullL) := by
  refine hasQ T sc_l_pull (fun ds po ⟨c, D, S, lo, most, le, e, _⟩ => by rw [e]; rfl) 9 rfl fun f cdv A outer s H E g hr => ⟨_, (pss_cons (ps_set (i := 1) sc_l_pull.nd rfl (by first | exact .inl rfl | exact .inr rfl) (peD D_l_turn g hr (by first | decide | exact Nat.le_refl _ | omega) (by rfl) (pa_cons (pv 0) pa_nil)))
      (pss_cons (ps_if (pt_cmpR op_isN (pv 1) pe_non (nomark _)) (pss_one (ps_ret (peD D_l_phi g hr (by first | decide | exact Nat.le_refl _ | omega) (by rfl) (pa_cons (pv 0) (pa_cons (pe_op op_mulA (pe_ix ix_tup (pv 0) pe_int (fun _ _ => rfl)) (pe_ix ix_tup (pv 0) pe_int (fun _ _ => rfl))) pa_nil))))) pss_nil)
      (pss_cons (ps_if (pt_cmpR op_gt (pv 1) pe_int (nomark _)) (pss_one (ps_ret (peD D_l_far_pull g hr (by first | decide | exact Nat.le_refl _ | omega) (by rfl) (pa_cons (pv 0) (pa_cons (pv 1) pa_nil))))) pss_nil)
      (pss_cons (ps_set (i := 2) sc_l_pull.nd rfl (by first | exact .inl rfl | exact .inr rfl) (pe_op op_add (pv 1) (pe_ix ix_tup (pv 0) pe_int (fun _ _ => rfl))))
      (pss_cons (ps_par (i := 3) (j := 4) (by rfl) sc_l_pull.nd rfl rfl (by decide) rfl rfl (pa_cons (peD D_l_lead_strain g hr (by first | decide | exact Nat.le_refl _ | omega) (by rfl) (pa_cons (pv 0) (pa_cons pe_int (pa_cons pe_non pa_nil)))) (pa_cons (pe_disp (pps_cons pe_int pe_non pps_nil) rfl rfl (by simp) (by decide)) pa_nil)) (by rfl))
      (pss_cons (ps_for PassesOwn.never rfl (pi_range2 (by rfl) B.b_range (pa_cons pe_int (pa_cons (pe_op op_add (pv 2) pe_int) pa_nil))) (pg_name (i := 5) sc_l_pull.nd rfl (by first | exact .inl rfl | exact .inr rfl)) (pss_cons (ps_set (i := 6) sc_l_pull.nd rfl (by first | exact .inl rfl | exact .inr rfl) (peD D_l_phi g hr (by first | decide | exact Nat.le_refl _ | omega) (by rfl) (pa_cons (pv 0) (pa_cons (pv 5) pa_nil))))
      (pss_cons (ps_for PassesOwn.never rfl (pi_range2 (by rfl) B.b_range (pa_cons (pe_ix ix_tup (pv 0) pe_int (fun _ _ => rfl)) (pa_cons (pe_op op_add (pe_callB (call_min2 rfl) (by rfl) B.b_min (by decide +kernel) (pa_cons (pe_ix ix_tup (pv 0) pe_int (fun _ _ => rfl)) (pa_cons (pv 5) pa_nil))) pe_int) pa_nil))) (pg_name (i := 7) sc_l_pull.nd rfl (by first | exact .inl rfl | exact .inr rfl)) (pss_one (ps_if (pt_cmp (pc_din (Nat.lt_of_le_of_lt (Nat.add_le_add_left (by decide) _) (room66 hr)) (pe_op op_sub (pv 5) (pv 7)) (pv 4))) (pss_cons (ps_set (i := 8) sc_l_pull.nd rfl (by first | exact .inl rfl | exact .inr rfl) (pe_dget (Nat.lt_of_le_of_lt (Nat.add_le_add_left (by decide) _) (room66 hr)) (pv 4) (pe_op op_sub (pv 5) (pv 7)) (fun _ _ => rfl)))
      (pss_cons (ps_set (i := 9) sc_l_pull.nd rfl (by first | exact .inl rfl | exact .inr rfl) (pe_ifExp (PW.pt (pw_or (pt_cmpR op_isN (pv 8) pe_non (nomark _)) (pw_or1 (pt_val (peD D_l_is_below g hr (by first | decide | exact Nat.le_refl _ | omega) (by rfl) (pa_cons (pv 6) (pa_cons (pv 8) pa_nil))))))) (pv 6) (pv 8)))
      (pss_one (ps_if (PW.pt (pw_or (pt_cmp (pc_dnotin (Nat.lt_of_le_of_lt (Nat.add_le_add_left (by decide) _) (room66 hr)) (pv 5) (pv 4))) (pw_or1 (pt_val (peD D_l_is_below g hr (by first | decide | exact Nat.le_refl _ | omega) (by rfl) (pa_cons (pe_dget (Nat.lt_of_le_of_lt (Nat.add_le_add_left (by decide) _) (room66 hr)) (pv 4) (pv 5) (fun _ _ => rfl)) (pa_cons (pv 9) pa_nil))))))) (pss_one (ps_dput (Nat.lt_of_le_of_lt (Nat.add_le_add_left (by decide) _) (room66 hr)) (pv 4) (pv 5) (pv 9) rfl)) pss_nil)))) pss_nil)))
      (pss_one (ps_if (pt_cmp (pc_din (Nat.lt_of_le_of_lt (Nat.add_le_add_left (by decide) _) (room66 hr)) (pv 5) (pv 4))) (pss_cons (ps_set (i := 9) sc_l_pull.nd rfl (by first | exact .inl rfl | exact .inr rfl) (peD D_l_lead_strain g hr (by first | decide | exact Nat.le_refl _ | omega) (by rfl) (pa_cons (pv 0) (pa_cons (pv 5) (pa_cons (pe_dget (Nat.lt_of_le_of_lt (Nat.add_le_add_left (by decide) _) (room66 hr)) (pv 4) (pv 5) (fun _ _ => rfl)) pa_nil)))))
      (pss_one (ps_set (i := 3) sc_l_pull.nd rfl (by first | exact .inl rfl | exact .inr rfl) (pe_ifExp (pt_val (peD D_l_is_below g hr (by first | decide | exact Nat.le_refl _ | omega) (by rfl) (pa_cons (pv 3) (pa_cons (pv 9) pa_nil)))) (pv 9) (pv 3))))) pss_nil)))))
      (pss_one (ps_ret (pv 3))))))))), ?_⟩
  try dsimp only [cxOf]
  rintro ds po ⟨c, D, S, lo, most, le, rfl, hB, h1000, rfl⟩
  have e1 := hB.e1
  have e8 := hB.e8
  have d2 := hB.d.fr.1
  have s2 := hB.s.fr.1
  have l1 := hB.l1
  have l2 := hB.l2
  have l3 := hB.l3
  have okE : IntMulOk (le : Int) (most : Int) := Bd.ok (j := 71) (k := 20) (by show ((le : Nat) : Int).natAbs < 2 ^ 71; omega) (by show (most : Int).natAbs < 2 ^ 20; omega) (by decide) (by decide) (by decide)
  have hx : (le : Int) * (most : Int) = ((le * most : Nat) : Int) := (Int.natCast_mul ..).symm
  have hp : 1 ≤ le * most := Nat.mul_pos (by omega) (by omega)
  have hle : le * most ≤ 2 ^ 70 * 16 := Nat.mul_le_mul (by omega) (by omega)
  have f1 := qphi_fq hB (t := (le : Int) * (most : Int)) (by omega) (by omega)
  repeat' walk_at "yy"
  refine c_Q (.cons .nil) _ ⟨c, D, S, lo, most, le, rfl, hB, rfl⟩ fun z hz => ?_
  by_cases hc : D.1 = 0 ∧ 0 < S.1
  · have ez : z = .none := hz.1 hc.1 hc.2
    subst ez
    repeat' (first | refine o_isN2 ?_ | refine o_mul okE ?_ | refine c_phi hB (by omega) (by omega) ?_ | exact absurd ‹isNone .none = false› (by decide) | walk_at "yy")
    exact ⟨f1, fun _ _ => by rw [hx], fun _ _ _ h => absurd hc h⟩
  obtain ⟨v, rfl, v1, v2, v3, v4⟩ := hz.2 hc
  have hT : IsTurnT D S v := ⟨v1, v3, v4⟩
  have vs := turn_small hB hT
  have hU := qphi_uni d2 s2 hB.d0 hT
  have fin : ∀ q, FqQ 250 q → IsPull (qphi D S) lo most le v q → IsPullB D S lo most le q := fun q h1 h2 => ⟨h1, fun a b => absurd ⟨a, b⟩ hc, fun T a _ _ => by rw [turn_one hB.d0 s2 a hT]; exact h2⟩
  repeat' (first | refine o_isN2 ?_ | exact absurd ‹isNone (.int v) = true› (by simp [isNone]) | walk_at "yy")
  · have hv := of_decide_eq_true ‹decide (40 < v) = true›
    refine c_Q (.cons (.cons .nil)) _ ⟨c, D, S, lo, most, le, v, rfl, hB, hv, by omega, hT, rfl⟩ fun z ⟨q, hz, hq, hq2⟩ => ?_
    subst hz
    repeat' walk_at "yy"
    exact fin q hq hq2
  have hv := of_decide_eq_false ‹decide (40 < v) = false›
  have hL := h1000 v hT (by omega)
  obtain ⟨u, rfl⟩ : ∃ u : Nat, v = (u : Int) := ⟨v.toNat, by omega⟩
  refine c_Q (.cons (.cons (.cons .nil))) _ ⟨c, D, S, lo, most, le, none, 0, rfl, hB, hL, by decide, by decide, fun q hq => (by cases hq), rfl⟩ fun z ⟨q0, hz, hq0⟩ => ?_
  subst hz
  have hb0 := best_start hU l2 (by omega) e1 hq0
  intro p hp0
  repeat' walk_at "yy"
  refine sj_for ?_
  repeat' walk_at "yy"
  refine ⟨by omega, ?_⟩
  rw [show ((u : Int) + (most : Int) + 1 - 1).toNat = u + most by omega]
  refine ⟨fun k es M => ∃ e5 e6 e7 e8 e9 q kvs, es = [.dat (bdQ c D S lo most le), .dat (.int (u : Int)), .dat (.int ((u : Int) + (most : Int))), .dat (frq q), .ref p, e5, e6, e7, e8, e9] ∧ BestV D S lo most le (u : Int) (1 + k) q ∧ KnV D S lo most le (u : Int) (1 + k) (1 + k) kvs ∧ M = [(p, .dct kvs)], ⟨_, _, _, _, _, q0, _, rfl, hb0, .start, rfl⟩, ?_, ?_⟩
  · rintro k d es M hd ⟨e5, e6, e7, e8', e9, q, kvs, rfl, hq, hkn, rfl⟩
    obtain ⟨hk, rfl⟩ := rgD_at hd
    have ec : (1 + (k : Int)) = ((1 + k : Nat) : Int) := rfl
    rw [ec]
    generalize hcc : 1 + k = cc at *
    have fx := qphi_fq hB (t := (cc : Int)) (by omega) (by omega)
    have cx : ∀ {Q : Ent → MM → Prop} {M : MM}, Q (.dat (frq (qphi D S (cc : Int)))) M → Cb K (fun vs H Q => SpQ K rPhi vs H Q E0) [.dat (bdQ c D S lo most le), .dat (.int (cc : Int))] M Q := fun p => c_phi hB (by omega) (by omega) p
    repeat' (first | refine cx ?_ | walk_at "yy")
    refine sj_for ?_
    repeat' walk_at "yy"
    refine ⟨⟨by omega, by omega, by split <;> omega, by split <;> omega⟩, ?_⟩
    refine ⟨fun j es M => ∃ e7 e8 e9 kvs, es = [.dat (bdQ c D S lo most le), .dat (.int (u : Int)), .dat (.int ((u : Int) + (most : Int))), .dat (frq q), .ref p, .dat (.int (cc : Int)), .dat (frq (qphi D S (cc : Int))), e7, e8, e9] ∧ KnV D S lo most le (u : Int) cc (cc + 1) kvs ∧ (∀ r : Nat, lo ≤ r → r < lo + j → r ≤ cc → Reach lo most ((cc - r : Nat) : Int) → ∃ q, valD kvs (.inl (cc : Int)) = some (frq q)) ∧ M = [(p, .dct kvs)], ⟨_, _, _, kvs, rfl, hkn.grow (by omega), fun r a b => by omega, rfl⟩, ?_, ?_⟩
    · rintro j d es M hd ⟨e7, e8', e9, kvs, rfl, hkn, hin, rfl⟩
      obtain ⟨hj, rfl⟩ := rgD_at hd
      have kl := hkn.keys.len
      have hjm : lo + j ≤ most ∧ lo + j ≤ cc := by
        have : ((if (cc : Int) < (most : Int) then (cc : Int) else (most : Int)) + 1 - (lo : Int)).toNat ≤ most + 1 - lo ∧ ((if (cc : Int) < (most : Int) then (cc : Int) else (most : Int)) + 1 - (lo : Int)).toNat ≤ cc + 1 - lo := by split <;> omega
        omega
      obtain ⟨a, ha⟩ : ∃ a : Nat, a = cc - (lo + j) := ⟨_, rfl⟩
      have ea : (cc : Int) - ((lo : Int) + (j : Int)) = ((a : Nat) : Int) := by omega
      repeat' walk_at "yy"
      refine ⟨p, kvs, _, rfl, rfl, List.Mem.head _, ?_⟩
      cases hv1 : valD kvs (.inl ((cc : Int) - ((lo : Int) + (j : Int)))) with
      | none =>
        have hno : ¬ Reach lo most (a : Int) := fun r => by
          rw [ea] at hv1
          by_cases a0 : a = 0
          · subst a0
            rw [hkn.zero] at hv1
            cases hv1
          · obtain ⟨q, hq⟩ := hkn.has a (by omega) (by omega) r
            rw [hq] at hv1
            cases hv1
        repeat' (first | exact absurd ‹(none : Option PyData).isSome = true› (by decide) | walk_at "yy")
        refine ⟨_, _, _, kvs, rfl, hkn, fun r x y z w => ?_, rfl⟩
        by_cases e : r < lo + j
        · exact hin r x e z w
        · have e2 : cc - r = a := by omega
          rw [e2] at w
          exact absurd w hno
      | some ah =>
        have hv3 := hv1
        rw [ea] at hv3
        have ra : Reach lo most (a : Int) := by
          by_cases a0 : a = 0
          · subst a0; exact Reach.zero lo most
          · exact (hkn.val a ah (by omega) hv3).2.1
        have rc : Reach lo most (cc : Int) := by
          have := ra.add (r := ((lo + j : Nat) : Int)) (by omega) (by omega)
          rw [show (a : Int) + ((lo + j : Nat) : Int) = (cc : Int) by omega] at this
          exact this
        repeat' (first | exact absurd ‹(some ah).isSome = false› (by simp) | walk_at "yy")
        refine ⟨p, kvs, _, ah, rfl, rfl, List.Mem.head _, hv1, ?_⟩
        have hcase : (ah = .none ∧ OkV D S lo most le (u : Int) cc (qphi D S (cc : Int))) ∨ ∃ qa, ah = frq qa ∧ FqQ 250 qa ∧ (leq (qphi D S (cc : Int)) qa → OkV D S lo most le (u : Int) cc (qphi D S (cc : Int))) ∧ (leq qa (qphi D S (cc : Int)) → OkV D S lo most le (u : Int) cc qa) := by
          by_cases a0 : a = 0
          · subst a0
            rw [hkn.zero] at hv3
            cases hv3
            exact .inl ⟨rfl, ok_first hU (by omega) (by omega) (by omega) fx⟩
          · obtain ⟨_, _, qa, rfl, hqa⟩ := hkn.val a ah (by omega) hv3
            have om := ok_more hU (by omega) e1 (by omega) (by omega) (by omega) ra hqa fx
            exact .inr ⟨qa, rfl, hqa.1, om.1, om.2⟩
        have tail : ∀ w, OkV D S lo most le (u : Int) cc w → (∀ r : Nat, lo ≤ r → r < lo + (j + 1) → r ≤ cc → Reach lo most ((cc - r : Nat) : Int) → ∃ q, valD (putD kvs (.inl (cc : Int)) (frq w)) (.inl (cc : Int)) = some (frq q)) ∧ KnV D S lo most le (u : Int) cc (cc + 1) (putD kvs (.inl (cc : Int)) (frq w)) := fun w hw => by
          have := hkn.put (i := cc) (by omega) (by omega) (by omega) rc hw
          exact ⟨fun _ _ _ _ _ => ⟨w, this.2⟩, this.1⟩
        rcases hcase with ⟨rfl, key⟩ | ⟨qa, rfl, hqa, k1, k2⟩
        all_goals repeat' (first | refine o_isN2 ?_ | exact absurd ‹isNone .none = false› (by decide) | exact absurd ‹isNone (frq qa) = true› (by simp [isNone]) | refine c_below (Fq.up fx (by decide)) (Fq.up hqa (by decide)) ?_ | walk_at "yy")
        all_goals (
          first
            | have key := k1 (below_leq ‹belowB (qphi D S (cc : Int)) qa = true›)
            | have key := k2 (below_not ‹belowB (qphi D S (cc : Int)) qa = false›)
            | skip
          refine ⟨p, kvs, _, rfl, rfl, List.Mem.head _, ?_⟩
          have tk := tail _ key
          cases hv2 : valD kvs (.inl (cc : Int)) with
          | none =>
            repeat' (first | exact absurd ‹(!(none : Option PyData).isSome) = false› (by decide) | walk_at "yy")
            exact ⟨by omega, _, _, _, _, rfl, tk.2, tk.1, rfl⟩
          | some d2 =>
            obtain ⟨_, _, q2, rfl, hq2⟩ := hkn.val cc d2 (by omega) hv2
            repeat' (first | exact absurd ‹(!(some (frq q2)).isSome) = true› (by simp) | walk_at "yy")
            refine ⟨p, kvs, _, _, rfl, rfl, List.Mem.head _, hv2, ?_⟩
            repeat' (first | refine c_below (Fq.up hq2.1 (by decide)) (Fq.up key.1 (by decide)) ?_ | walk_at "yy")
            · exact ⟨by omega, _, _, _, _, rfl, tk.2, tk.1, rfl⟩
            · exact ⟨_, _, _, kvs, rfl, hkn, fun _ _ _ _ _ => ⟨q2, hv2⟩, rfl⟩)
    · rintro es M ⟨e7, e8', e9, kvs, rfl, hkn, hin, rfl⟩
      rw [rgD_len] at hin
      have hkn := hkn.next (by omega) fun r => by
        obtain ⟨r1, g1, g2, g3, g4⟩ := r.step l2 (by omega)
        obtain ⟨n, rfl⟩ : ∃ n : Nat, r1 = (n : Int) := ⟨r1.toNat, by omega⟩
        refine hin n (by omega) (by split <;> omega) (by omega) ?_
        rw [show ((cc - n : Nat) : Int) = (cc : Int) - (n : Int) by omega]
        exact g4
      have ce : 1 + (k + 1) = cc + 1 := by omega
      repeat' walk_at "yy"
      refine ⟨p, kvs, _, rfl, rfl, List.Mem.head _, ?_⟩
      cases hv2 : valD kvs (.inl (cc : Int)) with
      | none =>
        have hno : ¬ Reach lo most (cc : Int) := fun r => by
          obtain ⟨q, hq⟩ := hkn.has cc (by omega) (by omega) r
          rw [hq] at hv2
          cases hv2
        repeat' (first | exact absurd ‹(none : Option PyData).isSome = true› (by decide) | walk_at "yy")
        exact ⟨_, _, _, _, _, q, kvs, rfl, by rw [ce]; exact hq.skip hno, by rw [ce]; exact hkn, rfl⟩
      | some d2 =>
        obtain ⟨_, rc, q2, rfl, hq2⟩ := hkn.val cc d2 (by omega) hv2
        repeat' (first | exact absurd ‹(some (frq q2)).isSome = false› (by simp) | walk_at "yy")
        refine ⟨p, kvs, _, _, rfl, rfl, List.Mem.head _, hv2, ?_⟩
        repeat' walk_at "yy"
        refine c_Q (.cons (.cons (.cons .nil))) _ ⟨c, D, S, lo, most, le, some q2, (cc : Int), rfl, hB, hL, by omega, by omega, fun r hr => (by cases hr; exact hq2.1), rfl⟩ fun z ⟨q3, hz3, hq3⟩ => ?_
        subst hz3
        obtain ⟨w1, w2⟩ := lead_ok hU l2 (by omega) e1 (by omega) rc hq2 hq3
        have mp : 0 < (minq (qphi D S (cc : Int)) (qphi D S ((cc : Int) + most))).2 := by
          rcases minq_or (qphi D S (cc : Int)) (qphi D S ((cc : Int) + most)) with e | e <;> rw [e]
          · exact fx.fr.1
          · exact qphi_pos d2 s2 (by omega)
        repeat' (first | refine c_below (Fq.up hq.1 (by decide)) (Fq.up hq3.1 (by decide)) ?_ | walk_at "yy")
        · exact ⟨_, _, _, _, _, q3, kvs, rfl, by rw [ce]; exact hq.take hU (by omega) e1 w2 hq3.1 w1 (below_leq ‹belowB q q3 = true›), by rw [ce]; exact hkn, rfl⟩
        · exact ⟨_, _, _, _, _, q, kvs, rfl, by rw [ce]; exact hq.keep w2 hq3.1.fr.1 mp (below_not ‹belowB q q3 = false›), by rw [ce]; exact hkn, rfl⟩
  · rintro es M ⟨e5, e6, e7, e8', e9, q, kvs, rfl, hq, hkn, rfl⟩
    rw [rgD_len] at hq
    repeat' walk_at "yy"
    exact fin q hq.1 (best_end hB (by omega) (by omega) hq)
end
end K34

set_option Elab.async false
set_option linter.all false
set_option maxRecDepth 100000
set_option maxHeartbeats 1000000
set_option exponentiation.threshold 20000
namespace K34
open PySem PySem.Spec PyProof.Rows L2 Yw
local macro_rules | `(tactic| walk_at "ye") => `(tactic| first
  | ((with_reducible show Ev _ (tVar _) _ _ _); first | refine ev_dat rfl ?_ | refine ev_ref rfl ?_ | refine ev_var rfl (fun z => nomatch z) ?_)
  | ((with_reducible show Ev _ (tC _) _ _ _); first | with_reducible refine ev_int ?_ | with_reducible refine ev_bl ?_ | with_reducible refine ev_non ?_ | with_reducible refine ev_str ?_ | with_reducible refine ev_ty ?_)
  | with_reducible refine ev_op ?_
  | with_reducible refine ev_un ?_
  | with_reducible refine ev_go ?_
  | with_reducible refine ev_cb ?_
  | with_reducible refine ev_tupD ?_
  | with_reducible refine ev_lstD ?_
  | with_reducible refine ev_chain ?_
  | with_reducible refine ev_if ?_
  | with_reducible refine ev_andV ?_
  | with_reducible refine ev_orV ?_
  | with_reducible refine ev_notV ?_
  | with_reducible refine ev_sl ?_
  | with_reducible refine ev_bm ?_)
local macro_rules | `(tactic| walk_at "ya") => `(tactic| first
  | with_reducible refine ea_cons ?_
  | with_reducible refine ea_nil ?_
  | with_reducible refine eo_none ?_
  | with_reducible refine eo_some ?_
  | with_reducible refine et_test ?_
  | with_reducible refine et_B ?_
  | with_reducible refine et_and ?_
  | with_reducible refine et_or ?_
  | with_reducible refine et_not ?_
  | with_reducible refine et_yes ?_
  | with_reducible refine tg_name ?_
  | with_reducible refine tgs_nil ?_
  | with_reducible refine tgs_cons ?_
  | ((with_reducible show Tg _ (gTup _ _ _) _ _ _ _); refine tg_tup rfl ?_)
  | with_reducible refine tg_sub ?_)
local macro_rules | `(tactic| walk_at "ys") => `(tactic| first
  | with_reducible refine sj_seq ?_
  | with_reducible refine sj_next ?_
  | with_reducible refine sj_newD ?_
  | with_reducible refine sj_set ?_
  | with_reducible refine sj_par ?_
  | with_reducible refine sj_ret ?_
  | with_reducible refine sj_drop ?_
  | with_reducible refine sj_if ?_
  | with_reducible refine sj_asg ?_
  | with_reducible refine sj_augS ?_
  | with_reducible refine iw_seq ?_
  | with_reducible refine iw_zip ?_
  | with_reducible refine iw_list ?_
  | with_reducible refine iw_tup ?_
  | with_reducible refine iw_r1 ?_
  | with_reducible refine iw_r2 ?_
  | with_reducible refine iw_enumT ?_)
local macro_rules | `(tactic| walk_at "yo") => `(tactic| first
  | with_reducible refine o_int ?_
  | with_reducible refine o_bool ?_
  | with_reducible refine o_mul (by first | exact mulR ⟨by decide, by decide⟩ | exact mulL ⟨by decide, by decide⟩) ?_
  | with_reducible refine o_mul ?_ ?_
  | with_reducible refine o_mod (by decide) ?_
  | with_reducible refine o_mod ?_ ?_
  | with_reducible refine o_div (by decide) (by decide +kernel) ?_
  | with_reducible refine o_cat ?_ ?_
  | with_reducible refine o_catT ?_ ?_
  | ((with_reducible show Op2 _ (rIxL _) (Ent.ref _) _ _ _); refine o_ixM (List.Mem.head _) rfl ?_)
  | with_reducible refine o_eqI ?_
  | with_reducible refine o_neI ?_
  | with_reducible refine o_eqS ?_
  | with_reducible refine o_neS ?_
  | with_reducible refine o_neg ?_
  | ((with_reducible show Op2 _ (rIxT _) _ _ _ _); refine o_ixT rfl ?_)
  | ((with_reducible show Op2 _ (rIxL _) (Ent.dat _) _ _ _); refine o_ixL rfl ?_)
  | ((with_reducible show Op2 _ (rI CPow _) _ _ _ _); refine o_pow ⟨by decide, by decide, by decide⟩ rfl ?_)
  | with_reducible refine c_abs ?_
  | with_reducible refine c_int ?_
  | with_reducible refine c_min2 ?_
  | with_reducible refine c_max2 ?_
  | with_reducible refine c_gcd ?_
  | with_reducible refine sl_L ?_
  | with_reducible refine c_len (.lst _) ?_
  | with_reducible refine c_len (.tup _) ?_)
local macro_rules | `(tactic| walk_at "yx") => `(tactic| first
  | with_reducible refine ⟨_, rfl, ?_⟩
  | with_reducible refine ⟨_, _, rfl, ?_⟩
  | with_reducible refine ⟨fun _ => ?_, fun _ => ?_⟩
  | ((with_reducible show ∃ _ _ _ _ _ _, _ = _ ∧ _ = _ ∧ _ = _ ∧ _ = _ ∧ _); refine ⟨[], _, _, _, _, _, rfl, rfl, rfl, rfl, ?_⟩)
  | ((with_reducible show ∃ _ _ _ _ _, _ = _ ∧ _ = _ ∧ _ ∧ _ ∧ _ ∧ _ = _ ∧ _ = _ ∧ _); refine ⟨_, _, _, _, _, rfl, rfl, List.Mem.head _, by decide, by decide, rfl, rfl, ?_⟩)
  | ((with_reducible show ∃ _ _ _, _ = _ ∧ _ = _ ∧ _); refine ⟨[], _, _, rfl, rfl, ?_⟩)
  | ((with_reducible show ∃ _, Ds _ _ ∧ _ ∧ _); refine ⟨_, (by repeat (first | exact Ds.nil | apply Ds.cons)), (by simp), ?_⟩))
local macro_rules | `(tactic| walk_at "yy") => `(tactic| first | walk_at "ye" | walk_at "ya" | walk_at "ys" | walk_at "yo" | walk_at "yx" | walk_at "yc")

/-! ### what a cell is asked for -/
theorem _root_.Yw.Rep.fq {q : Int × Int} {n d : Int} {k : Nat} (h : Rep q n d) (a : Bd k n) (b : Bd k d) : FqQ k q := by
  rw [h.2]
  exact red_fq (by have := h.1; omega) a b
theorem _root_.Yw.Rep.conv {q : Int × Int} {n d m e : Int} (h : Rep q n d) (he : 0 < e) (hx : n * e = m * d) : Rep q m e := by
  refine Rep.of he h.fr ?_
  have h1 := h.cross
  have h2 := h.1
  refine Int.eq_of_mul_eq_mul_right (show d ≠ 0 by omega) ?_
  have e1 : q.1 * e * d = q.1 * d * e := by grind
  have e2 : m * q.2 * d = m * d * q.2 := by grind
  rw [e1, e2, h1, ← hx]
  grind
def needN (S D p : Int × Int) (run : Int) : Int := 4 * S.1 * p.2 * D.2 + run * p.1 * S.2 * D.2 + D.1 * (run * (run + 1)) * S.2 * p.2
def needD (S D p : Int × Int) : Int := S.2 * p.2 * D.2
theorem needD_pos {S D p : Int × Int} (h1 : 0 < S.2) (h2 : 0 < D.2) (h3 : 0 < p.2) : 0 < needD S D p := Int.mul_pos (Int.mul_pos h1 h3) h2
theorem needN_bd {D S p : Int × Int} {lo most le : Nat} (h : Bq D S lo most le) (hp : FqQ 250 p) {run : Int} (r0 : 0 ≤ run) (r1 : run ≤ 16) : Bd 350 (needN S D p run) := by
  have a : Bd 333 (4 * S.1 * p.2 * D.2) := (((Bd.mul (j := 3) (by show _ < _; decide) h.s.n).mul hp.d).mul h.d.d).up (by decide)
  have b : Bd 335 (run * p.1 * S.2 * D.2) := ((((Bd.mul (j := 5) (by show run.natAbs < 2 ^ 5; omega) hp.n).mul h.s.d).mul h.d.d)).up (by decide)
  have rr : Bd 10 (run * (run + 1)) := (Bd.mul (j := 5) (k := 5) (by show run.natAbs < 2 ^ 5; omega) (by show (run + 1).natAbs < 2 ^ 5; omega))
  have c : Bd 340 (D.1 * (run * (run + 1)) * S.2 * p.2) := (((h.d.n.mul rr).mul h.s.d).mul hp.d).up (by decide)
  exact (((a.up (by decide : 333 ≤ 335)).add b).up (by decide : 336 ≤ 340)).add c |>.up (by decide)
theorem needD_bd {D S p : Int × Int} {lo most le : Nat} (h : Bq D S lo most le) (hp : FqQ 250 p) : Bd 350 (needD S D p) := ((h.s.d.mul hp.d).mul h.d.d).up (by decide)
section
variable {P : Program} {w : World} {K : PySem.W.Frag} {mg : Str → Option Value} {base : Heap}

end
end K34

set_option Elab.async false
set_option linter.all false
set_option maxRecDepth 100000
set_option maxHeartbeats 1000000
set_option exponentiation.threshold 20000
namespace K34
open PySem PySem.Spec PyProof.Rows L2 Yw
local macro_rules | `(tactic| walk_at "ye") => `(tactic| first
  | ((with_reducible show Ev _ (tVar _) _ _ _); first | refine ev_dat rfl ?_ | refine ev_ref rfl ?_ | refine ev_var rfl (fun z => nomatch z) ?_)
  | ((with_reducible show Ev _ (tC _) _ _ _); first | with_reducible refine ev_int ?_ | with_reducible refine ev_bl ?_ | with_reducible refine ev_non ?_ | with_reducible refine ev_str ?_ | with_reducible refine ev_ty ?_)
  | with_reducible refine ev_op ?_
  | with_reducible refine ev_un ?_
  | with_reducible refine ev_go ?_
  | with_reducible refine ev_cb ?_
  | with_reducible refine ev_tupD ?_
  | with_reducible refine ev_lstD ?_
  | with_reducible refine ev_chain ?_
  | with_reducible refine ev_if ?_
  | with_reducible refine ev_andV ?_
  | with_reducible refine ev_orV ?_
  | with_reducible refine ev_notV ?_
  | with_reducible refine ev_sl ?_
  | with_reducible refine ev_bm ?_)
local macro_rules | `(tactic| walk_at "ya") => `(tactic| first
  | with_reducible refine ea_cons ?_
  | with_reducible refine ea_nil ?_
  | with_reducible refine eo_none ?_
  | with_reducible refine eo_some ?_
  | with_reducible refine et_test ?_
  | with_reducible refine et_B ?_
  | with_reducible refine et_and ?_
  | with_reducible refine et_or ?_
  | with_reducible refine et_not ?_
  | with_reducible refine et_yes ?_
  | with_reducible refine tg_name ?_
  | with_reducible refine tgs_nil ?_
  | with_reducible refine tgs_cons ?_
  | ((with_reducible show Tg _ (gTup _ _ _) _ _ _ _); refine tg_tup rfl ?_)
  | with_reducible refine tg_sub ?_)
local macro_rules | `(tactic| walk_at "ys") => `(tactic| first
  | with_reducible refine sj_seq ?_
  | with_reducible refine sj_next ?_
  | with_reducible refine sj_newD ?_
  | with_reducible refine sj_set ?_
  | with_reducible refine sj_par ?_
  | with_reducible refine sj_ret ?_
  | with_reducible refine sj_drop ?_
  | with_reducible refine sj_if ?_
  | with_reducible refine sj_asg ?_
  | with_reducible refine sj_augS ?_
  | with_reducible refine iw_seq ?_
  | with_reducible refine iw_zip ?_
  | with_reducible refine iw_list ?_
  | with_reducible refine iw_tup ?_
  | with_reducible refine iw_r1 ?_
  | with_reducible refine iw_r2 ?_
  | with_reducible refine iw_enumT ?_)
local macro_rules | `(tactic| walk_at "yo") => `(tactic| first
  | with_reducible refine o_int ?_
  | with_reducible refine o_bool ?_
  | with_reducible refine o_mul (by first | exact mulR ⟨by decide, by decide⟩ | exact mulL ⟨by decide, by decide⟩) ?_
  | with_reducible refine o_mul ?_ ?_
  | with_reducible refine o_mod (by decide) ?_
  | with_reducible refine o_mod ?_ ?_
  | with_reducible refine o_div (by decide) (by decide +kernel) ?_
  | with_reducible refine o_cat ?_ ?_
  | with_reducible refine o_catT ?_ ?_
  | ((with_reducible show Op2 _ (rIxL _) (Ent.ref _) _ _ _); refine o_ixM (List.Mem.head _) rfl ?_)
  | with_reducible refine o_eqI ?_
  | with_reducible refine o_neI ?_
  | with_reducible refine o_eqS ?_
  | with_reducible refine o_neS ?_
  | with_reducible refine o_neg ?_
  | ((with_reducible show Op2 _ (rIxT _) _ _ _ _); refine o_ixT rfl ?_)
  | ((with_reducible show Op2 _ (rIxL _) (Ent.dat _) _ _ _); refine o_ixL rfl ?_)
  | ((with_reducible show Op2 _ (rI CPow _) _ _ _ _); refine o_pow ⟨by decide, by decide, by decide⟩ rfl ?_)
  | with_reducible refine c_abs ?_
  | with_reducible refine c_int ?_
  | with_reducible refine c_min2 ?_
  | with_reducible refine c_max2 ?_
  | with_reducible refine c_gcd ?_
  | with_reducible refine sl_L ?_
  | with_reducible refine c_len (.lst _) ?_
  | with_reducible refine c_len (.tup _) ?_)
local macro_rules | `(tactic| walk_at "yx") => `(tactic| first
  | with_reducible refine ⟨_, rfl, ?_⟩
  | with_reducible refine ⟨_, _, rfl, ?_⟩
  | with_reducible refine ⟨fun _ => ?_, fun _ => ?_⟩
  | ((with_reducible show ∃ _ _ _ _ _ _, _ = _ ∧ _ = _ ∧ _ = _ ∧ _ = _ ∧ _); refine ⟨[], _, _, _, _, _, rfl, rfl, rfl, rfl, ?_⟩)
  | ((with_reducible show ∃ _ _ _ _ _, _ = _ ∧ _ = _ ∧ _ ∧ _ ∧ _ ∧ _ = _ ∧ _ = _ ∧ _); refine ⟨_, _, _, _, _, rfl, rfl, List.Mem.head _, by decide, by decide, rfl, rfl, ?_⟩)
  | ((with_reducible show ∃ _ _ _, _ = _ ∧ _ = _ ∧ _); refine ⟨[], _, _, rfl, rfl, ?_⟩)
  | ((with_reducible show ∃ _, Ds _ _ ∧ _ ∧ _); refine ⟨_, (by repeat (first | exact Ds.nil | apply Ds.cons)), (by simp), ?_⟩))
local macro_rules | `(tactic| walk_at "yy") => `(tactic| first | walk_at "ye" | walk_at "ya" | walk_at "ys" | walk_at "yo" | walk_at "yx" | walk_at "yc")

local macro_rules | `(tactic| walk_at "yc") => `(tactic| first | with_reducible refine c_take ?_ ?_ ?_)
def PtQ (A B : Int) (q : Int × Int) : Prop := Fr q.1 q.2 ∧ 0 ≤ q.1 ∧ q.1 ≤ A ∧ q.2 ≤ B
theorem part_small {n d A B : Int} (h0 : 0 ≤ n) (h1 : n ≤ A) (d0 : 0 < d) (d1 : d ≤ B) : PtQ A B (redN n d, redD n d) := by
  have a := redN_le (n := n) (show d ≠ 0 by omega)
  have b := redD_le (n := n) (show d ≠ 0 by omega)
  have p := redD_pos (n := n) (show d ≠ 0 by omega)
  have e := red_eq n d
  have nn : 0 ≤ redN n d := by
    by_cases z : 0 ≤ redN n d
    · exact z
    · have h2 := Int.mul_lt_mul_of_pos_right (show redN n d < 0 by omega) d0
      have h3 := Int.mul_nonneg h0 (Int.le_of_lt p)
      omega
  exact ⟨red_fr (by omega), nn, by simp only; omega, by simp only; omega⟩
theorem pt_fq {A B : Int} {q : Int × Int} (h : PtQ A B q) (ha : A < 2 ^ 40) (hb : B < 2 ^ 40) : FqQ 40 q := by
  obtain ⟨f, a, b, c⟩ := h
  have p := f.1
  exact ⟨f, by show q.1.natAbs < 2 ^ 40; omega, by show q.2.natAbs < 2 ^ 40; omega⟩
theorem bq_of {A B A' B' : Int} {D S : Int × Int} {lo most le : Nat} (hD : PtQ A B D) (hS : PtQ A' B' S) (h1 : A < 2 ^ 40) (h2 : B < 2 ^ 40) (h3 : A' < 2 ^ 40) (h4 : B' < 2 ^ 40) (h5 : 4 * (A' * B) < 2 ^ 60) (l1 : 1 ≤ lo) (l2 : lo ≤ most) (l3 : most ≤ 16) (e1 : 1 ≤ le) (e8 : le ≤ 8) : Bq D S lo most le := by
  refine ⟨pt_fq hD h1 h2, pt_fq hS h3 h4, hD.2.1, hS.2.1, l1, l2, l3, e1, Nat.le_trans e8 (by decide), ?_⟩
  have p := hD.1.1
  have := Int.mul_le_mul hS.2.2.1 hD.2.2.2 (Int.le_of_lt p) (Int.le_trans hS.2.1 hS.2.2.1)
  rw [Int.mul_assoc]
  omega
def rNeeded : RR := fun ds po => ∃ c D S lo most le m, ∃ run : Int, ds = [bdQ c D S lo most le, .int run, frq m] ∧ Bq D S lo most le ∧ 0 ≤ run ∧ run ≤ 16 ∧ FqQ 250 m ∧ po = fun r => ∃ q, r = frq q ∧ Rep q (needN S D m run) (needD S D m)
def rFraction : RR := fun ds po => ∃ w : Int, ds = [.int w] ∧ 0 < w ∧ w ≤ 64 ∧ po = fun r => ∃ q, r = frq q ∧ PtQ 64 64 q
def rShape : RR := fun ds po => ds = [.int 3] ∧ po = fun r => ∃ D S, ∃ (lo most le : Nat), r = .tuple [frq D, frq S, .int (lo : Int), .int (most : Int), .int (le : Int)] ∧ PtQ 64 64 D ∧ PtQ 64 64 S ∧ 1 ≤ lo ∧ lo ≤ most ∧ most ≤ 16 ∧ 1 ≤ le ∧ le ≤ 8 ∧ lo ≤ 3 ∧ most ≤ 6 ∧ le ≤ 3
def rLeastCell : RR := fun ds po => ∃ D S, ∃ (lo most le : Nat), ds = [frq D, frq S, .int (lo : Int), .int (most : Int), .int (le : Int)] ∧ Bq D S lo most le ∧ le ≤ 8 ∧ po = fun r => ((lo = most ∧ r = .int 1) ∨ (lo ≠ most ∧ ∃ p, IsPullB D S lo most le p ∧ r = .int (needN S D p ((most : Int) - 1) / needD S D p + 1))) ∧ ∃ x : Int, r = .int x ∧ Bd 400 x
def rLeastWat : RR := fun ds po => ∃ D S, ∃ (lo most le : Nat), ds = [frq D, frq S, .int (lo : Int), .int (most : Int), .int (le : Int)] ∧ Bq D S lo most le ∧ le ≤ 8 ∧ po = fun r => r = .none ∨ ∃ x : Int, r = .int x ∧ Bd 400 x
def rBoundsQ : RR := fun ds po => ds = [.int 3] ∧ po = fun r => ∃ c D S lo most le, r = bdQ c D S lo most le ∧ PtQ 64 64 D ∧ PtQ 64 64 S ∧ Bq D S lo most le ∧ Bd 420 c ∧ le ≤ 8 ∧ 1 ≤ c ∧ lo ≤ 3 ∧ most ≤ 6 ∧ le ≤ 3
theorem cell_bd {k : Nat} {n d : Int} (h : Bd k n) (hk : 3 ≤ k) : Bd (k + 1) (n / d + 1) := (part_bd (g := d) h).add (Bd.up (j := 1) (by show _ < _; decide) (by omega))
section
variable {P : Program} {w : World} {K : PySem.W.Frag} {mg : Str → Option Value} {base : Heap}
theorem ok_l_needed (B : Bt mg) (D_l_add : Has P w K mg base 3 "_law_add" ["one", "other"] (SpQ K rAdd)) (D_l_many : Has P w K mg base 3 "_law_many" ["one", "many"] (SpQ K rManyL)) (T : Stands K mg "_law_needed" s_l_needed ["bounds", "run", "most"]) : Has P w K mg base 4 "_law_needed" ["bounds", "run", "most"] (SpQ K rNeeded) := by
  refine hasQ T sc_l_needed (fun ds po ⟨c, D, S, lo, most, le, m, run, e, _⟩ => by rw [e]; rfl) 1 rfl fun f cdv A outer s H E g hr => ⟨_, (pss_cons (ps_set (i := 3) sc_l_needed.nd rfl (by first | exact .inl rfl | exact .inr rfl) (peD D_l_add g hr (by first | decide | exact Nat.le_refl _ | omega) (by rfl) (pa_cons (peD D_l_many g hr (by first | decide | exact Nat.le_refl _ | omega) (by rfl) (pa_cons (pe_ix ix_tup (pv 0) pe_int (fun _ _ => rfl)) (pa_cons pe_int pa_nil))) (pa_cons (peD D_l_many g hr (by first | decide | exact Nat.le_refl _ | omega) (by rfl) (pa_cons (pv 2) (pa_cons (pv 1) pa_nil))) pa_nil))))
      (pss_one (ps_ret (peD D_l_add g hr (by first | decide | exact Nat.le_refl _ | omega) (by rfl) (pa_cons (pv 3) (pa_cons (peD D_l_many g hr (by first | decide | exact Nat.le_refl _ | omega) (by rfl) (pa_cons (pe_ix ix_tup (pv 0) pe_int (fun _ _ => rfl)) (pa_cons (pe_op op_mulA (pv 1) (pe_op op_add (pv 1) pe_int)) pa_nil))) pa_nil)))))), ?_⟩
  try dsimp only [cxOf]
  rintro ds po ⟨c, D, S, lo, most, le, m, run, rfl, hB, r0, r16, hm, rfl⟩
  have d := hB.d
  have s := hB.s
  have b4 : Bd 100 (4 : Int) := Bd.up (j := 3) (by show _ < _; decide) (by decide)
  have br : Bd 100 run := Bd.up (j := 10) (by show run.natAbs < 2 ^ 10; omega) (by decide)
  have okr : IntMulOk run (run + 1) := mulL (by omega)
  have brr : Bd 100 (run * (run + 1)) := ((Bd.up (j := 10) (k := 10) (a := run) (by show run.natAbs < 2 ^ 10; omega) (by decide)).mul (b := run + 1) (k := 10) (by show (run + 1).natAbs < 2 ^ 10; omega)).up (by decide)
  have f1 : FqQ 140 (qmany S 4) := many_fq s b4
  have f2 : FqQ 350 (qmany m run) := many_fq hm br
  have f3 : FqQ 491 (qadd (qmany S 4) (qmany m run)) := qadd_fq f1 f2
  have f4 : FqQ 140 (qmany D (run * (run + 1))) := many_fq d brr
  have f5 : FqQ 632 (qadd (qadd (qmany S 4) (qmany m run)) (qmany D (run * (run + 1)))) := qadd_fq f3 f4
  repeat' (first | refine o_mul okr ?_ | refine c_manyL (s.up (by decide)) (b4.up (by decide)) ?_ | refine c_manyL (hm.up (by decide)) (br.up (by decide)) ?_ | refine c_manyL (d.up (by decide)) (brr.up (by decide)) ?_ | refine c_add (f1.up (by decide)) (f2.up (by decide)) ?_ | refine c_add (f3.up (by decide)) (f4.up (by decide)) ?_ | walk_at "yy")
  have rep : Rep (qadd (qadd (qmany S 4) (qmany m run)) (qmany D (run * (run + 1)))) _ _ := (((Rep.self hB.s.fr).many 4).add ((Rep.self hm.fr).many run)).add ((Rep.self hB.d.fr).many (run * (run + 1)))
  exact rep.conv (needD_pos hB.s.fr.1 hB.d.fr.1 hm.fr.1) (by unfold needN needD; grind)
theorem ok_l_fraction (B : Bt mg) (D_l_part : Has P w K mg base 2 "_law_part" ["n", "d"] (SpQ K rPart)) (D_l_take : Has P w K mg base 1 "_law_take" ["bag", "many"] (SpD K rTake)) (D_l_some : Has P w K mg base 2 "_law_some" ["bag", "things"] (SpD K rSome)) (T : Stands K mg "_law_fraction" s_l_fraction ["bag", "wide"]) : Has P w K mg base 3 "_law_fraction" ["bag", "wide"] (SpD K rFraction) := by
  refine hasD T sc_l_fraction (fun ds po ⟨w, e, _⟩ => by rw [e]; rfl) 0 rfl fun f cdv A outer s H E g hr => ⟨_, (pss_one (ps_ret (peD D_l_part g hr (by first | decide | exact Nat.le_refl _ | omega) (by rfl) (pa_cons (peD D_l_take g hr (by first | decide | exact Nat.le_refl _ | omega) (by rfl) (pa_cons (pv 0) (pa_cons (pv 1) pa_nil))) (pa_cons (peD D_l_some g hr (by first | decide | exact Nat.le_refl _ | omega) (by rfl) (pa_cons (pv 0) (pa_cons (pe_lst (pa_cons pe_int (pa_cons pe_int (pa_cons pe_int (pa_cons pe_int (pa_cons pe_int (pa_cons pe_int pa_nil))))))) pa_nil))) pa_nil))))), ?_⟩
  try dsimp only [cxOf]
  rintro b C ds po ⟨w, rfl, w0, w1, rfl⟩
  repeat' walk_at "yy"
  · exact w0
  · exact Bd.up (j := 10) (by show w.natAbs < 2 ^ 10; omega) (by decide)
  intro v C1 v0 v1
  repeat' walk_at "yy"
  refine c_some (by simp) (by simp) fun d C2 hd => ?_
  obtain ⟨x, rfl, x0⟩ : ∃ x : Int, d = .int x ∧ (1 ≤ x ∧ x ≤ 5) := by
    simp only [List.mem_cons, List.not_mem_nil, or_false] at hd
    rcases hd with e | e | e | e | e | e
    all_goals exact ⟨_, e, by decide⟩
  repeat' walk_at "yy"
  refine c_part (by omega) (Bd.up (j := 10) (by show v.natAbs < 2 ^ 10; omega) (by decide)) (Bd.up (j := 10) (by show x.natAbs < 2 ^ 10; omega) (by decide)) ?_
  repeat' walk_at "yy"
  exact ⟨⟨C2, [], rfl⟩, _, rfl, part_small v0 (by omega) (by omega) (by omega)⟩
theorem ok_l_shape_of_bounds (B : Bt mg) (D_l_some : Has P w K mg base 2 "_law_some" ["bag", "things"] (SpD K rSome)) (D_l_take : Has P w K mg base 1 "_law_take" ["bag", "many"] (SpD K rTake)) (D_l_fraction : Has P w K mg base 3 "_law_fraction" ["bag", "wide"] (SpD K rFraction)) (T : Stands K mg "_law_shape_of_bounds" s_l_shape_of_bounds ["bag", "most"]) : Has P w K mg base 4 "_law_shape_of_bounds" ["bag", "most"] (SpD K rShape) := by
  refine hasD T sc_l_shape_of_bounds (fun ds po ⟨e, _⟩ => by rw [e]; rfl) 4 rfl fun f cdv A outer s H E g hr => ⟨_, (pss_cons (ps_set (i := 2) sc_l_shape_of_bounds.nd rfl (by first | exact .inl rfl | exact .inr rfl) (pe_op op_add pe_int (peD D_l_take g hr (by first | decide | exact Nat.le_refl _ | omega) (by rfl) (pa_cons (pv 0) (pa_cons (pv 1) pa_nil)))))
      (pss_cons (ps_set (i := 3) sc_l_shape_of_bounds.nd rfl (by first | exact .inl rfl | exact .inr rfl) (pe_op op_add (pv 2) (peD D_l_some g hr (by first | decide | exact Nat.le_refl _ | omega) (by rfl) (pa_cons (pv 0) (pa_cons (pe_lst (pa_cons pe_int (pa_cons pe_int (pa_cons pe_int (pa_cons pe_int (pa_cons pe_int (pa_cons pe_int pa_nil))))))) pa_nil)))))
      (pss_cons (ps_set (i := 4) sc_l_shape_of_bounds.nd rfl (by first | exact .inl rfl | exact .inr rfl) (peD D_l_some g hr (by first | decide | exact Nat.le_refl _ | omega) (by rfl) (pa_cons (pv 0) (pa_cons (pe_lst (pa_cons (pe_tup (pa_cons pe_int (pa_cons pe_int pa_nil))) (pa_cons (peD D_l_fraction g hr (by first | decide | exact Nat.le_refl _ | omega) (by rfl) (pa_cons (pv 0) (pa_cons pe_int pa_nil))) (pa_cons (peD D_l_fraction g hr (by first | decide | exact Nat.le_refl _ | omega) (by rfl) (pa_cons (pv 0) (pa_cons pe_int pa_nil))) (pa_cons (pe_tup (pa_cons pe_int (pa_cons pe_int pa_nil))) (pa_cons (pe_tup (pa_cons pe_int (pa_cons pe_int pa_nil))) pa_nil)))))) pa_nil))))
      (pss_cons (ps_set (i := 5) sc_l_shape_of_bounds.nd rfl (by first | exact .inl rfl | exact .inr rfl) (peD D_l_some g hr (by first | decide | exact Nat.le_refl _ | omega) (by rfl) (pa_cons (pv 0) (pa_cons (pe_lst (pa_cons (pe_tup (pa_cons pe_int (pa_cons pe_int pa_nil))) (pa_cons (peD D_l_fraction g hr (by first | decide | exact Nat.le_refl _ | omega) (by rfl) (pa_cons (pv 0) (pa_cons pe_int pa_nil))) (pa_cons (peD D_l_fraction g hr (by first | decide | exact Nat.le_refl _ | omega) (by rfl) (pa_cons (pv 0) (pa_cons pe_int pa_nil))) (pa_cons (pe_tup (pa_cons pe_int (pa_cons pe_int pa_nil))) (pa_cons (pe_tup (pa_cons pe_int (pa_cons pe_int pa_nil))) pa_nil)))))) pa_nil))))
      (pss_one (ps_ret (pe_tup (pa_cons (pv 4) (pa_cons (pv 5) (pa_cons (pv 2) (pa_cons (pv 3) (pa_cons (peD D_l_some g hr (by first | decide | exact Nat.le_refl _ | omega) (by rfl) (pa_cons (pv 0) (pa_cons (pe_lst (pa_cons pe_int (pa_cons pe_int (pa_cons pe_int (pa_cons pe_int (pa_cons pe_int pa_nil)))))) pa_nil))) pa_nil)))))))))))), ?_⟩
  try dsimp only [cxOf]
  rintro b C ds po ⟨rfl, rfl⟩
  have lit : ∀ x y : Int, 0 ≤ x → x ≤ 64 → Fr x y → y ≤ 64 → PtQ 64 64 (x, y) := fun x y a b c d => ⟨c, a, b, d⟩
  repeat' walk_at "yy"
  · decide
  · show _ < _; decide
  intro v C1 v0 v1
  repeat' walk_at "yy"
  refine c_some (by simp) (by simp) fun d C2 hd => ?_
  obtain ⟨x, rfl, x0⟩ : ∃ x : Int, d = .int x ∧ (0 ≤ x ∧ x ≤ 3) := by
    simp only [List.mem_cons, List.not_mem_nil, or_false] at hd
    rcases hd with e | e | e | e | e | e
    all_goals exact ⟨_, e, by decide⟩
  clear hd
  repeat' walk_at "yy"
  refine c_D (.cons .nil) _ ⟨4, rfl, by decide, by decide, rfl⟩ fun z C3 ⟨q1, hz1, hq1⟩ => ?_
  subst hz1
  repeat' walk_at "yy"
  refine c_D (.cons .nil) _ ⟨9, rfl, by decide, by decide, rfl⟩ fun z C4 ⟨q2, hz2, hq2⟩ => ?_
  subst hz2
  repeat' walk_at "yy"
  refine c_some (by simp) (by simp) fun d C5 hd => ?_
  obtain ⟨D, rfl, hD⟩ : ∃ D, d = frq D ∧ PtQ 64 64 D := by
    simp only [List.mem_cons, List.not_mem_nil, or_false] at hd
    rcases hd with e | e | e | e | e
    · exact ⟨(0, 1), e, lit 0 1 (by decide) (by decide) ⟨by decide, by decide⟩ (by decide)⟩
    · exact ⟨q1, e, hq1⟩
    · exact ⟨q2, e, hq2⟩
    · exact ⟨(1, 2), e, lit 1 2 (by decide) (by decide) ⟨by decide, by decide⟩ (by decide)⟩
    · exact ⟨(1, 1), e, lit 1 1 (by decide) (by decide) ⟨by decide, by decide⟩ (by decide)⟩
  clear hd hq1 hq2
  repeat' walk_at "yy"
  refine c_D (.cons .nil) _ ⟨4, rfl, by decide, by decide, rfl⟩ fun z C6 ⟨q1, hz1, hq1⟩ => ?_
  subst hz1
  repeat' walk_at "yy"
  refine c_D (.cons .nil) _ ⟨12, rfl, by decide, by decide, rfl⟩ fun z C7 ⟨q2, hz2, hq2⟩ => ?_
  subst hz2
  repeat' walk_at "yy"
  refine c_some (by simp) (by simp) fun d C8 hd => ?_
  obtain ⟨S, rfl, hS⟩ : ∃ D, d = frq D ∧ PtQ 64 64 D := by
    simp only [List.mem_cons, List.not_mem_nil, or_false] at hd
    rcases hd with e | e | e | e | e
    · exact ⟨(0, 1), e, lit 0 1 (by decide) (by decide) ⟨by decide, by decide⟩ (by decide)⟩
    · exact ⟨q1, e, hq1⟩
    · exact ⟨q2, e, hq2⟩
    · exact ⟨(3, 2), e, lit 3 2 (by decide) (by decide) ⟨by decide, by decide⟩ (by decide)⟩
    · exact ⟨(1, 1), e, lit 1 1 (by decide) (by decide) ⟨by decide, by decide⟩ (by decide)⟩
  clear hd hq1 hq2
  repeat' walk_at "yy"
  refine c_some (by simp) (by simp) fun d C9 hd => ?_
  obtain ⟨y, rfl, y1, y8⟩ : ∃ y : Nat, d = .int (y : Int) ∧ 1 ≤ y ∧ y ≤ 3 := by
    simp only [List.mem_cons, List.not_mem_nil, or_false] at hd
    rcases hd with e | e | e | e | e
    · exact ⟨1, e, by decide, by decide⟩
    · exact ⟨1, e, by decide, by decide⟩
    · exact ⟨2, e, by decide, by decide⟩
    · exact ⟨3, e, by decide, by decide⟩
    · exact ⟨2, e, by decide, by decide⟩
  repeat' walk_at "yy"
  refine ⟨⟨C9, [], rfl⟩, D, S, (1 + v).toNat, (1 + v + x).toNat, y, ?_, hD, hS, by omega, by omega, by omega, y1, by omega, by omega, by omega, by omega⟩
  rw [show (((1 + v).toNat : Nat) : Int) = 1 + v by omega, show (((1 + v + x).toNat : Nat) : Int) = 1 + v + x by omega]
theorem ok_l_least_cell (B : Bt mg) (D_l_needed : Has P w K mg base 4 "_law_needed" ["bounds", "run", "most"] (SpQ K rNeeded)) (D_l_pull : Has P w K mg base 6 "_law_pull" ["bounds"] (SpQ K rPullL)) (T : Stands K mg "_law_least_cell" s_l_least_cell ["drift", "shift", "lo", "most", "lead"]) : Has P w K mg base 7 "_law_least_cell" ["drift", "shift", "lo", "most", "lead"] (SpQ K rLeastCell) := by
  refine hasQ T sc_l_least_cell (fun ds po ⟨D, S, lo, most, le, e, _⟩ => by rw [e]; rfl) 3 rfl fun f cdv A outer s H E g hr => ⟨_, (pss_cons (ps_if (pt_cmpR op_eq (pv 2) (pv 3) (nomark _)) (pss_one (ps_ret pe_int)) pss_nil)
      (pss_cons (ps_set (i := 5) sc_l_least_cell.nd rfl (by first | exact .inl rfl | exact .inr rfl) (pe_tup (pa_cons pe_int (pa_cons (pv 0) (pa_cons (pv 1) (pa_cons (pv 2) (pa_cons (pv 3) (pa_cons (pv 4) pa_nil))))))))
      (pss_cons (ps_asg (peD D_l_needed g hr (by first | decide | exact Nat.le_refl _ | omega) (by rfl) (pa_cons (pv 5) (pa_cons (pe_op op_sub (pv 3) pe_int) (pa_cons (peD D_l_pull g hr (by first | decide | exact Nat.le_refl _ | omega) (by rfl) (pa_cons (pv 5) pa_nil)) pa_nil)))) (pg_tup rfl (pgs_cons (pg_name (i := 6) sc_l_least_cell.nd rfl (by first | exact .inl rfl | exact .inr rfl)) (pgs_cons (pg_name (i := 7) sc_l_least_cell.nd rfl (by first | exact .inl rfl | exact .inr rfl)) pgs_nil))))
      (pss_one (ps_ret (pe_op op_add (pe_op op_divA (pv 6) (pv 7)) pe_int)))))), ?_⟩
  try dsimp only [cxOf]
  rintro ds po ⟨D, S, lo, most, le, rfl, hB, e8, rfl⟩
  have l1 := hB.l1
  have l2 := hB.l2
  have l3 := hB.l3
  repeat' walk_at "yy"
  all_goals try (have he := of_decide_eq_true ‹decide ((lo : Int) = (most : Int)) = true›; exact ⟨.inl ⟨by omega, rfl⟩, 1, rfl, Bd.up (j := 1) (by show _ < _; decide) (by decide)⟩)
  have hne : lo ≠ most := by have := of_decide_eq_false ‹decide ((lo : Int) = (most : Int)) = false›; omega
  refine c_Q (.cons .nil) _ ⟨1, D, S, lo, most, le, rfl, hB, (fun _ _ _ => by omega), rfl⟩ fun z ⟨m, hz, hm⟩ => ?_
  subst hz
  repeat' walk_at "yy"
  refine c_Q (.cons (.cons (.cons .nil))) _ ⟨1, D, S, lo, most, le, m, (most : Int) - 1, rfl, hB, by omega, by omega, hm.1, rfl⟩ fun z ⟨q, hz, hr⟩ => ?_
  subst hz
  have hq := hr.fq (needN_bd hB hm.1 (by omega) (by omega)) (needD_bd hB hm.1)
  repeat' (first | refine o_div hq.fr.1 (hq.d.div (by decide) (by decide)) ?_ | walk_at "yy")
  exact ⟨.inr ⟨hne, m, hm, by rw [hr.floor]⟩, _, rfl, (cell_bd hq.n (by decide)).up (by decide)⟩
theorem ok_l_least_watchful_cell (B : Bt mg) (D_l_needed : Has P w K mg base 4 "_law_needed" ["bounds", "run", "most"] (SpQ K rNeeded)) (D_l_pull : Has P w K mg base 6 "_law_pull" ["bounds"] (SpQ K rPullL)) (D_l_least_cell : Has P w K mg base 7 "_law_least_cell" ["drift", "shift", "lo", "most", "lead"] (SpQ K rLeastCell)) (T : Stands K mg "_law_least_watchful_cell" s_l_least_watchful_cell ["drift", "shift", "lo", "most", "lead"]) : Has P w K mg base 8 "_law_least_watchful_cell" ["drift", "shift", "lo", "most", "lead"] (SpQ K rLeastWat) := by
  refine hasQ T sc_l_least_watchful_cell (fun ds po ⟨D, S, lo, most, le, e, _⟩ => by rw [e]; rfl) 3 rfl fun f cdv A outer s H E g hr => ⟨_, (pss_cons (ps_if (pt_cmpR op_le (pe_op op_mulA pe_int (pv 2)) (pv 3) (nomark _)) (pss_one (ps_ret pe_non)) pss_nil)
      (pss_cons (ps_set (i := 5) sc_l_least_watchful_cell.nd rfl (by first | exact .inl rfl | exact .inr rfl) (pe_tup (pa_cons pe_int (pa_cons (pv 0) (pa_cons (pv 1) (pa_cons (pv 2) (pa_cons (pv 3) (pa_cons (pv 4) pa_nil))))))))
      (pss_cons (ps_asg (peD D_l_needed g hr (by first | decide | exact Nat.le_refl _ | omega) (by rfl) (pa_cons (pv 5) (pa_cons (pv 3) (pa_cons (peD D_l_pull g hr (by first | decide | exact Nat.le_refl _ | omega) (by rfl) (pa_cons (pv 5) pa_nil)) pa_nil)))) (pg_tup rfl (pgs_cons (pg_name (i := 6) sc_l_least_watchful_cell.nd rfl (by first | exact .inl rfl | exact .inr rfl)) (pgs_cons (pg_name (i := 7) sc_l_least_watchful_cell.nd rfl (by first | exact .inl rfl | exact .inr rfl)) pgs_nil))))
      (pss_one (ps_ret (pe_callB (call_max2 rfl) (by rfl) B.b_max (by decide +kernel) (pa_cons (peD D_l_least_cell g hr (by first | decide | exact Nat.le_refl _ | omega) (by rfl) (pa_cons (pv 0) (pa_cons (pv 1) (pa_cons (pv 2) (pa_cons (pv 3) (pa_cons (pv 4) pa_nil)))))) (pa_cons (pe_op op_add (pe_op op_divA (pv 6) (pe_op op_mulA (pv 7) (pe_op op_sub (pe_op op_mulA pe_int (pv 2)) (pv 3)))) pe_int) pa_nil)))))))), ?_⟩
  try dsimp only [cxOf]
  rintro ds po ⟨D, S, lo, most, le, rfl, hB, e8, rfl⟩
  have l1 := hB.l1
  have l2 := hB.l2
  have l3 := hB.l3
  repeat' walk_at "yy"
  · exact .inl rfl
  have hg : ¬ 2 * (lo : Int) ≤ most := of_decide_eq_false ‹decide (2 * (lo : Int) ≤ (most : Int)) = false›
  refine c_Q (.cons .nil) _ ⟨1, D, S, lo, most, le, rfl, hB, (fun _ _ _ => by omega), rfl⟩ fun z ⟨m, hz, hm⟩ => ?_
  subst hz
  repeat' walk_at "yy"
  refine c_Q (.cons (.cons (.cons .nil))) _ ⟨1, D, S, lo, most, le, m, (most : Int), rfl, hB, by omega, by omega, hm.1, rfl⟩ fun z ⟨q, hz, hr⟩ => ?_
  subst hz
  have hq := (hr.fq (needN_bd hB hm.1 (by omega) (by omega)) (needD_bd hB hm.1))
  have gp : 0 < 2 * (lo : Int) - most := by omega
  have gb : Bd 10 (2 * (lo : Int) - most) := by show (2 * (lo : Int) - most).natAbs < 2 ^ 10; omega
  have o1 : IntMulOk q.2 (2 * (lo : Int) - most) := Bd.ok hq.d gb (by decide) (by decide) (by decide)
  have dp := Int.mul_pos hq.fr.1 gp
  have db : Bd 360 (q.2 * (2 * (lo : Int) - most)) := hq.d.mul gb
  repeat' walk_at "yy"
  refine c_Q (.cons (.cons (.cons (.cons (.cons .nil))))) _ ⟨D, S, lo, most, le, rfl, hB, e8, rfl⟩ fun z ⟨_, x, hz, hx⟩ => ?_
  subst hz
  repeat' (first | refine o_mul o1 ?_ | refine o_div dp (db.div (by decide) (by decide)) ?_ | walk_at "yy")
  refine .inr ⟨_, rfl, ?_⟩
  split
  · exact (cell_bd hq.n (by decide)).up (by decide)
  · exact hx
theorem ok_l_bounds (B : Bt mg) (D_l_shape_of_bounds : Has P w K mg base 4 "_law_shape_of_bounds" ["bag", "most"] (SpD K rShape)) (D_l_least_cell : Has P w K mg base 7 "_law_least_cell" ["drift", "shift", "lo", "most", "lead"] (SpQ K rLeastCell)) (D_l_take : Has P w K mg base 1 "_law_take" ["bag", "many"] (SpD K rTake)) (D_l_least_watchful_cell : Has P w K mg base 8 "_law_least_watchful_cell" ["drift", "shift", "lo", "most", "lead"] (SpQ K rLeastWat)) (D_l_some : Has P w K mg base 2 "_law_some" ["bag", "things"] (SpD K rSome)) (T : Stands K mg "_law_bounds" s_l_bounds ["bag", "most"]) : Has P w K mg base 9 "_law_bounds" ["bag", "most"] (SpD K rBoundsQ) := by
  refine hasD T sc_l_bounds (fun ds po ⟨e, _⟩ => by rw [e]; rfl) 7 rfl fun f cdv A outer s H E g hr => ⟨_, (pss_cons (ps_asg (peD D_l_shape_of_bounds g hr (by first | decide | exact Nat.le_refl _ | omega) (by rfl) (pa_cons (pv 0) (pa_cons (pv 1) pa_nil))) (pg_tup rfl (pgs_cons (pg_name (i := 2) sc_l_bounds.nd rfl (by first | exact .inl rfl | exact .inr rfl)) (pgs_cons (pg_name (i := 3) sc_l_bounds.nd rfl (by first | exact .inl rfl | exact .inr rfl)) (pgs_cons (pg_name (i := 4) sc_l_bounds.nd rfl (by first | exact .inl rfl | exact .inr rfl)) (pgs_cons (pg_name (i := 5) sc_l_bounds.nd rfl (by first | exact .inl rfl | exact .inr rfl)) (pgs_cons (pg_name (i := 6) sc_l_bounds.nd rfl (by first | exact .inl rfl | exact .inr rfl)) pgs_nil)))))))
      (pss_cons (ps_set (i := 7) sc_l_bounds.nd rfl (by first | exact .inl rfl | exact .inr rfl) (pe_lst (pa_cons (peD D_l_least_cell g hr (by first | decide | exact Nat.le_refl _ | omega) (by rfl) (pa_cons (pv 2) (pa_cons (pv 3) (pa_cons (pv 4) (pa_cons (pv 5) (pa_cons (pv 6) pa_nil)))))) (pa_cons (pe_op op_add pe_int (peD D_l_take g hr (by first | decide | exact Nat.le_refl _ | omega) (by rfl) (pa_cons (pv 0) (pa_cons pe_int pa_nil)))) pa_nil))))
      (pss_cons (ps_expr (pe_bm PySem.F.plainAttrs_list PySem.F.slot_list_append PySem.F.type_list_append mt_append (pv 7) (pa_cons (pe_orG (peD D_l_least_watchful_cell g hr (by first | decide | exact Nat.le_refl _ | omega) (by rfl) (pa_cons (pv 2) (pa_cons (pv 3) (pa_cons (pv 4) (pa_cons (pv 5) (pa_cons (pv 6) pa_nil)))))) (pe_one (pe_ix ix_list (pv 7) pe_int (fun _ _ => rfl)))) pa_nil)))
      (pss_cons (ps_set (i := 8) sc_l_bounds.nd rfl (by first | exact .inl rfl | exact .inr rfl) (pe_callB (call_max2 rfl) (by rfl) B.b_max (by decide +kernel) (pa_cons pe_int (pa_cons (pe_op op_add (peD D_l_some g hr (by first | decide | exact Nat.le_refl _ | omega) (by rfl) (pa_cons (pv 0) (pa_cons (pv 7) pa_nil))) (peD D_l_some g hr (by first | decide | exact Nat.le_refl _ | omega) (by rfl) (pa_cons (pv 0) (pa_cons (pe_lst (pa_cons pe_int (pa_cons pe_int (pa_cons (pe_un un_neg pe_int) (pa_cons pe_int (pa_cons pe_int (pa_cons (pe_un un_neg pe_int) pa_nil))))))) pa_nil)))) pa_nil))))
      (pss_one (ps_ret (pe_tup (pa_cons (pv 8) (pa_cons (pv 2) (pa_cons (pv 3) (pa_cons (pv 4) (pa_cons (pv 5) (pa_cons (pv 6) pa_nil))))))))))))), ?_⟩
  try dsimp only [cxOf]
  rintro b C ds po ⟨rfl, rfl⟩
  repeat' walk_at "yy"
  refine c_D (.cons .nil) _ ⟨rfl, rfl⟩ fun z C1 ⟨D, S, lo, most, le, hz, hD, hS, l1, l2, l3, e1, e8, lo3, m6, le3⟩ => ?_
  subst hz
  have hB : Bq D S lo most le := bq_of hD hS (by decide) (by decide) (by decide) (by decide) (by decide) l1 l2 l3 e1 e8
  repeat' walk_at "yy"
  refine c_Q (.cons (.cons (.cons (.cons (.cons .nil))))) _ ⟨D, S, lo, most, le, rfl, hB, e8, rfl⟩ fun z ⟨_, x, hz, hx⟩ => ?_
  subst hz
  repeat' walk_at "yy"
  · decide
  · show _ < _; decide
  intro v C2 v0 v1
  repeat' walk_at "yy"
  intro p hp
  repeat' walk_at "yy"
  refine ⟨ty_ref (List.Mem.tail _ (List.Mem.head _)), ?_⟩
  repeat' (first | refine ev_orG ?_ | walk_at "yy")
  refine c_Q (.cons (.cons (.cons (.cons (.cons .nil))))) _ ⟨D, S, lo, most, le, rfl, hB, e8, rfl⟩ fun z hz => ?_
  have bv : Bd 400 (1 + v) := Bd.up (j := 10) (by show (1 + v).natAbs < 2 ^ 10; omega) (by decide)
  have at0 : ∀ xs : List PyData, atI (PyData.int x :: xs) 0 = some (.int x) := fun xs => atI_nat (j := 0) rfl
  rcases hz with rfl | ⟨y, rfl, hy⟩
  case' inl => (
    refine .inl ⟨rfl, ?_⟩
    repeat' (first | refine o_ixM (List.Mem.tail _ (List.Mem.head _)) (at0 _) ?_ | walk_at "yy"))
  case' inr => (
    refine .inr ⟨y, rfl, fun _ => ?_, fun _ => ?_⟩
    all_goals repeat' (first | refine o_ixM (List.Mem.tail _ (List.Mem.head _)) (at0 _) ?_ | walk_at "yy"))
  all_goals refine m_append (Ma := [(b, .lst (Bag.ds C2))]) (Mb := []) rfl (by simp) ?_
  all_goals (
    refine sj_fast [(b, .lst (Bag.ds C2))] [] rfl hp (.keep (.keep (.keep (.keep (.keep (.keep (.keep (.hit (.keep .nil))))))))) ?_
    repeat' walk_at "yy"
    refine c_some (by simp) (by simp) fun d C3 hd => ?_
    obtain ⟨u, rfl, hu⟩ : ∃ u : Int, d = .int u ∧ Bd 400 u := by
      simp only [List.mem_append, List.mem_cons, List.not_mem_nil, or_false] at hd
      rcases hd with (e | e) | e
      all_goals exact ⟨_, e, by assumption⟩
    clear hd
    repeat' walk_at "yy"
    refine c_some (by simp) (by simp) fun d C4 hd => ?_
    obtain ⟨g, rfl, hg⟩ : ∃ g : Int, d = .int g ∧ Bd 400 g := by
      simp only [List.mem_cons, List.not_mem_nil, or_false] at hd
      rcases hd with e | e | e | e | e | e
      all_goals exact ⟨_, e, Bd.up (j := 5) (by show _ < _; decide) (by decide)⟩
    clear hd
    repeat' walk_at "yy"
    refine ⟨⟨C4, [], rfl⟩, _, D, S, lo, most, le, rfl, hD, hS, hB, ?_, e8, ?_, lo3, m6, le3⟩
    · split
      · exact (hu.add hg).up (by decide)
      · exact Bd.up (j := 1) (by show _ < _; decide) (by decide)
    · split <;> omega)
end
end K34

set_option Elab.async false
set_option linter.all false
set_option maxRecDepth 100000
set_option maxHeartbeats 1000000
set_option exponentiation.threshold 20000
namespace K34
open PySem PySem.Spec PyProof.Rows L2 Yw
local macro_rules | `(tactic| walk_at "ye") => `(tactic| first
  | ((with_reducible show Ev _ (tVar _) _ _ _); first | refine ev_dat rfl ?_ | refine ev_ref rfl ?_ | refine ev_var rfl (fun z => nomatch z) ?_)
  | ((with_reducible show Ev _ (tC _) _ _ _); first | with_reducible refine ev_int ?_ | with_reducible refine ev_bl ?_ | with_reducible refine ev_non ?_ | with_reducible refine ev_str ?_ | with_reducible refine ev_ty ?_)
  | with_reducible refine ev_op ?_
  | with_reducible refine ev_un ?_
  | with_reducible refine ev_go ?_
  | with_reducible refine ev_cb ?_
  | with_reducible refine ev_tupD ?_
  | with_reducible refine ev_lstD ?_
  | with_reducible refine ev_chain ?_
  | with_reducible refine ev_if ?_
  | with_reducible refine ev_andV ?_
  | with_reducible refine ev_orV ?_
  | with_reducible refine ev_notV ?_
  | with_reducible refine ev_sl ?_
  | with_reducible refine ev_bm ?_)
local macro_rules | `(tactic| walk_at "ya") => `(tactic| first
  | with_reducible refine ea_cons ?_
  | with_reducible refine ea_nil ?_
  | with_reducible refine eo_none ?_
  | with_reducible refine eo_some ?_
  | with_reducible refine et_test ?_
  | with_reducible refine et_B ?_
  | with_reducible refine et_and ?_
  | with_reducible refine et_or ?_
  | with_reducible refine et_not ?_
  | with_reducible refine et_yes ?_
  | with_reducible refine tg_name ?_
  | with_reducible refine tgs_nil ?_
  | with_reducible refine tgs_cons ?_
  | ((with_reducible show Tg _ (gTup _ _ _) _ _ _ _); refine tg_tup rfl ?_)
  | with_reducible refine tg_sub ?_)
local macro_rules | `(tactic| walk_at "ys") => `(tactic| first
  | with_reducible refine sj_seq ?_
  | with_reducible refine sj_next ?_
  | with_reducible refine sj_newD ?_
  | with_reducible refine sj_set ?_
  | with_reducible refine sj_par ?_
  | with_reducible refine sj_ret ?_
  | with_reducible refine sj_drop ?_
  | with_reducible refine sj_if ?_
  | with_reducible refine sj_asg ?_
  | with_reducible refine sj_augS ?_
  | with_reducible refine iw_seq ?_
  | with_reducible refine iw_zip ?_
  | with_reducible refine iw_list ?_
  | with_reducible refine iw_tup ?_
  | with_reducible refine iw_r1 ?_
  | with_reducible refine iw_r2 ?_
  | with_reducible refine iw_enumT ?_)
local macro_rules | `(tactic| walk_at "yo") => `(tactic| first
  | with_reducible refine o_int ?_
  | with_reducible refine o_bool ?_
  | with_reducible refine o_mul (by first | exact mulR ⟨by decide, by decide⟩ | exact mulL ⟨by decide, by decide⟩) ?_
  | with_reducible refine o_mul ?_ ?_
  | with_reducible refine o_mod (by decide) ?_
  | with_reducible refine o_mod ?_ ?_
  | with_reducible refine o_div (by decide) (by decide +kernel) ?_
  | with_reducible refine o_cat ?_ ?_
  | with_reducible refine o_catT ?_ ?_
  | ((with_reducible show Op2 _ (rIxL _) (Ent.ref _) _ _ _); refine o_ixM (List.Mem.head _) rfl ?_)
  | with_reducible refine o_eqI ?_
  | with_reducible refine o_neI ?_
  | with_reducible refine o_eqS ?_
  | with_reducible refine o_neS ?_
  | with_reducible refine o_neg ?_
  | ((with_reducible show Op2 _ (rIxT _) _ _ _ _); refine o_ixT rfl ?_)
  | ((with_reducible show Op2 _ (rIxL _) (Ent.dat _) _ _ _); refine o_ixL rfl ?_)
  | ((with_reducible show Op2 _ (rI CPow _) _ _ _ _); refine o_pow ⟨by decide, by decide, by decide⟩ rfl ?_)
  | with_reducible refine c_abs ?_
  | with_reducible refine c_int ?_
  | with_reducible refine c_min2 ?_
  | with_reducible refine c_max2 ?_
  | with_reducible refine c_gcd ?_
  | with_reducible refine sl_L ?_
  | with_reducible refine c_len (.lst _) ?_
  | with_reducible refine c_len (.tup _) ?_)
local macro_rules | `(tactic| walk_at "yx") => `(tactic| first
  | with_reducible refine ⟨_, rfl, ?_⟩
  | with_reducible refine ⟨_, _, rfl, ?_⟩
  | with_reducible refine ⟨fun _ => ?_, fun _ => ?_⟩
  | ((with_reducible show ∃ _ _ _ _ _ _, _ = _ ∧ _ = _ ∧ _ = _ ∧ _ = _ ∧ _); refine ⟨[], _, _, _, _, _, rfl, rfl, rfl, rfl, ?_⟩)
  | ((with_reducible show ∃ _ _ _ _ _, _ = _ ∧ _ = _ ∧ _ ∧ _ ∧ _ ∧ _ = _ ∧ _ = _ ∧ _); refine ⟨_, _, _, _, _, rfl, rfl, List.Mem.head _, by decide, by decide, rfl, rfl, ?_⟩)
  | ((with_reducible show ∃ _ _ _, _ = _ ∧ _ = _ ∧ _); refine ⟨[], _, _, rfl, rfl, ?_⟩)
  | ((with_reducible show ∃ _, Ds _ _ ∧ _ ∧ _); refine ⟨_, (by repeat (first | exact Ds.nil | apply Ds.cons)), (by simp), ?_⟩))
local macro_rules | `(tactic| walk_at "yy") => `(tactic| first | walk_at "ye" | walk_at "ya" | walk_at "ys" | walk_at "yo" | walk_at "yx" | walk_at "yc")

local macro_rules | `(tactic| walk_at "yc") => `(tactic| first | with_reducible refine c_moments ?_ ?_ ?_ | with_reducible refine c_addedV ?_ ?_ ?_ ?_ | with_reducible refine c_negatedV ?_ ?_ | with_reducible refine ev_revT ?_)
/-! ### what is heard -/
theorem op_notInK {X : Cx} {K : PySem.W.Frag} (h : X.K = K) : OpR X (compareOp .NotIn) (rIn K true) := h ▸ op_notIn_seq
theorem sl_orS {K : PySem.W.Frag} {M : MM} {P : Ent → MM → Prop} {d : PyData} {ds : List PyData} {lo hi : Option Int} (s : Sq d ds) (p1 : d = .list ds → P (.dat (.list (cutY ds lo hi))) M) (p2 : d = .tuple ds → P (.dat (.tuple (cutY ds lo hi))) M) : Sl K (fun x lo hi H Q => rSlL K x lo hi H Q ∨ rSlA K x lo hi H Q) (.dat d) lo hi M P := fun x G H Q a w r => by
  cases s with
  | lst => exact .inl (sl_L (p1 rfl) x G H Q a w r)
  | tup => exact .inr (sl_T (p2 rfl) x G H Q a w r)
/-- the ints from the least to the greatest -/
def srt (xs : List Int) : List Int := xs.mergeSort (fun a b => decide (a ≤ b))
theorem srt_perm (xs : List Int) : (srt xs).Perm xs := List.mergeSort_perm xs _
theorem srt_asc (xs : List Int) : Asc (srt xs) := by
  have h := List.pairwise_mergeSort (le := fun a b : Int => decide (a ≤ b)) (fun a b c h1 h2 => by simp at *; omega) (fun a b => by simp; omega) xs
  exact h.imp fun h => by simpa using h
theorem srt_of {zs xs : List Int} (p : zs.Perm xs) (s : Asc zs) : zs = srt xs := asc_uniq2 (p.trans (srt_perm xs).symm) s (srt_asc xs)
theorem srt_eq {xs ys : List Int} (p : xs.Perm ys) : srt xs = srt ys := srt_of ((srt_perm xs).trans p) (srt_asc xs)
theorem srt_len (xs : List Int) : (srt xs).length = xs.length := (srt_perm xs).length_eq
theorem srt_mem {xs : List Int} {x : Int} (h : x ∈ srt xs) : x ∈ xs := (srt_perm xs).subset h
def missT (js hs : List Int) (k : Nat) : List Int := (List.range k).filterMap fun (i : Nat) => if js.contains (i : Int) then none else hs[i]?
def missF (js hs : List Int) : List Int := missT js hs hs.length
theorem missT_yes {js hs : List Int} {k : Nat} (h : js.contains (k : Int) = true) : missT js hs (k + 1) = missT js hs k := by
  unfold missT
  rw [List.range_succ, List.filterMap_append]
  simp only [List.filterMap_cons, List.filterMap_nil, h, if_true, List.append_nil]
theorem missT_no {js hs : List Int} {k : Nat} {x : Int} (h : js.contains (k : Int) = false) (hx : hs[k]? = some x) : missT js hs (k + 1) = missT js hs k ++ [x] := by
  unfold missT
  rw [List.range_succ, List.filterMap_append]
  simp only [List.filterMap_cons, List.filterMap_nil, h, hx]
  rfl
theorem missT_len (js hs : List Int) (k : Nat) : (missT js hs k).length ≤ k := by
  unfold missT
  exact Nat.le_trans (List.length_filterMap_le _ _) (by rw [List.length_range]; exact Nat.le_refl _)
theorem missF_mem {js hs : List Int} {x : Int} (h : x ∈ missF js hs) : x ∈ hs := by
  unfold missF missT at h
  obtain ⟨i, _, hi⟩ := List.mem_filterMap.mp h
  by_cases c : js.contains (i : Int) = true
  · rw [if_pos c] at hi
    cases hi
  · rw [if_neg c] at hi
    exact List.mem_of_getElem? hi
inductive Harm where
  | mis (js : List Int)
  | cli (ws : List Int)
def hD (L : Int) : Harm → PyData
  | .mis js => .tuple [.str (Str.ofString "missed"), .tuple (js.map .int)]
  | .cli ws => .tuple [.str (Str.ofString "clicks"), .tuple (qs L ws)]
def hF : Harm → List Int → List Int
  | .mis js, hs => missF js hs
  | .cli ws, hs => srt (hs ++ ws)
def HarmOk : Harm → Prop
  | .mis js => js.length ≤ 300 ∧ ∀ j ∈ js, 0 ≤ j ∧ j ≤ 300
  | .cli ws => ws.length ≤ 3 ∧ Asc ws ∧ ∀ x ∈ ws, Bd 730 x
def rMergeS : RR := fun ds po => ∃ (d0 d1 : PyData) (L : Int) (xs ys : List Int), ds = [d0, d1] ∧ Sq d0 (qs L xs) ∧ Sq d1 (qs L ys) ∧ Sz L ∧ (∀ x ∈ xs, Bd 900 x) ∧ (∀ y ∈ ys, Bd 900 y) ∧ xs.length ≤ 1000 ∧ ys.length ≤ 1000 ∧ Asc xs ∧ Asc ys ∧ po = fun r => r = .list (qs L (srt (xs ++ ys)))
def rOrdS (n : Nat) : RR := fun ds po => ∃ L, ∃ ms : List Int, ds = [.list (qs L ms)] ∧ Sz L ∧ (∀ x ∈ ms, Bd 900 x) ∧ 1 ≤ n ∧ ms.length ≤ 2 ^ (n - 1) ∧ ms.length ≤ 1000 ∧ po = fun r => r = .list (qs L (srt ms))
def rOrderS : RR := fun ds po => ∃ L, ∃ ms : List Int, ds = [.list (qs L ms)] ∧ Sz L ∧ (∀ x ∈ ms, Bd 900 x) ∧ ms.length ≤ 128 ∧ po = fun r => r = .list (qs L (srt ms))
def rHearS : RR := fun ds po => ∃ L m, ∃ ms ns ss : List Int, ds = [telD L m ms, rowD ns, .tuple (qs L ss)] ∧ Sz L ∧ Sm m ms ∧ Rw ns ms ∧ ns.length ≤ 125 ∧ ss.length = ns.length + 1 ∧ (∀ s ∈ ss, Bd 720 s) ∧ po = fun r => r = .tuple (qs L (srt (List.zipWith (· + ·) (marks m ms ns) ss)))
def rHarmedS : RR := fun ds po => ∃ L, ∃ (hs : List Int) (h : Harm), ds = [.tuple (qs L hs), hD L h] ∧ Sz L ∧ HarmOk h ∧ (∀ x ∈ hs, Bd 730 x) ∧ hs.length ≤ 900 ∧ Asc hs ∧ po = fun r => r = .tuple (qs L (hF h hs))
def rBackS : RR := fun ds po => ∃ L, ∃ xs : List Int, ds = [.tuple (qs L xs)] ∧ Sz L ∧ xs.length ≤ 5000 ∧ po = fun r => r = .tuple (qs L (xs.reverse.map fun x => -x))
section
variable {P : Program} {w : World} {K : PySem.W.Frag} {mg : Str → Option Value} {base : Heap}
theorem ok_merged_by {f0 : Addr} {fd0 : FuncData} (B : Bt mg) (m0 : mg "compared" = some (.ref f0)) (k0 : PySem.W.keepIn K (.ref f0) = true) (b0 : Binds K fd0 ["one", "other"] []) (F0 : FnG P w K mg base 1 f0 fd0 ["one", "other"] (spCmp K)) (T : Stands K mg "merged_by" s_merged_by ["order", "some", "others"]) : Has P w K mg base 2 "merged_by" ["order", "some", "others"] (SpF K f0 rMergeS) := by
  refine hasF T sc_merged_by (fun ds po ⟨d0, d1, L, xs, ys, e, _⟩ => by rw [e]; rfl) 3 rfl fun f cdv A outer s H E g hr => ⟨_, (pss_cons (ps_set (i := 3) sc_merged_by.nd rfl (by first | exact .inl rfl | exact .inr rfl) (pe_lst pa_nil))
      (pss_cons (ps_set (i := 4) sc_merged_by.nd rfl (by first | exact .inl rfl | exact .inr rfl) pe_int)
      (pss_cons (ps_for PassesOwn.never rfl (pi_seq (pv 2)) (pg_name (i := 5) sc_merged_by.nd rfl (by first | exact .inl rfl | exact .inr rfl)) (pss_cons (ps_while PassesOwn.never (PW.pt (pw_and (pt_cmpR op_lt (pv 4) (pe_callB call_len_seq (by rfl) B.b_len (by decide +kernel) (pa_cons (pv 1) pa_nil)) (nomark _)) (pw_and1 (pt_cmpR op_le (peL (i := 0) F0 g hr (by first | decide | exact Nat.le_refl _ | omega) (by rfl) (by first | exact .inl rfl | exact .inr rfl) k0 b0 (pa_cons (pe_ix ix_seq (pv 1) (pv 4) (fun _ _ => rfl)) (pa_cons (pv 5) pa_nil))) pe_int (nomark _))))) (pss_cons (ps_expr (pe_bm PySem.F.plainAttrs_list PySem.F.slot_list_append PySem.F.type_list_append mt_append (pv 3) (pa_cons (pe_ix ix_seq (pv 1) (pv 4) (fun _ _ => rfl)) pa_nil)))
      (pss_one (ps_aug (i := 4) sc_merged_by.nd rfl (by first | exact .inl rfl | exact .inr rfl) pe_int ip_add))))
      (pss_one (ps_expr (pe_bm PySem.F.plainAttrs_list PySem.F.slot_list_append PySem.F.type_list_append mt_append (pv 3) (pa_cons (pv 5) pa_nil))))))
      (pss_one (ps_ret (pe_op op_cat (pv 3) (pe_callTy call_list_of (by rfl) B.b_list (by decide +kernel) (pa_cons (pe_slice (sl_list.or sl_tupA) (pv 1) (po_some (pv 4)) po_none) pa_nil)))))))), ?_⟩
  try dsimp only [cxOf]
  rintro ds po ⟨d0, d1, L, xs, ys, rfl, s0, s1, z, hx, hy, lx, ly, ox, oy, rfl⟩
  repeat' walk_at "yy"
  intro p hp
  repeat' walk_at "yy"
  refine sj_for ?_
  repeat' walk_at "yy"
  refine ⟨_, qs L ys, rfl, s1, ?_⟩
  refine ⟨fun k es M => ∃ (a : Nat) (zs : List Int) (e5 : Ent), es = [.ref f0, .dat d0, .dat d1, .ref p, .dat (.int (a : Nat)), e5] ∧ M = [(p, .lst (qs L zs))] ∧ Mg xs ys a k zs, ⟨0, [], .no, rfl, rfl, Mg.start xs ys⟩, ?_, ?_⟩
  · rintro k d es M hd ⟨a, zs, e5, rfl, rfl, mg0⟩
    obtain ⟨y, hk, rfl⟩ := qs_at hd
    repeat' walk_at "yy"
    refine sj_while (fun m es M => ∃ (a : Nat) (zs : List Int), m = xs.length - a ∧ es = [.ref f0, .dat d0, .dat d1, .ref p, .dat (.int (a : Nat)), .dat (frq (qv L y))] ∧ M = [(p, .lst (qs L zs))] ∧ Mg xs ys a k zs) (xs.length - a) ⟨a, zs, rfl, rfl, rfl, mg0⟩ ?_
    rintro m es M ⟨a, zs, rfl, rfl, rfl, mg1⟩
    have zl := mg1.len
    have by9 : Bd 900 y := hy y (List.mem_of_getElem? hk)
    refine et_and ?_
    repeat' (first | refine c_len s0 ?_ | walk_at "yy")
    · rename_i h
      rw [qs_len] at h
      have h := of_decide_eq_true h
      have ha : a < xs.length := by omega
      have hxa := List.getElem?_eq_getElem ha
      generalize xs[a] = x at hxa
      have a1 : atI (qs L xs) ((a : Nat) : Int) = some (frq (qv L x)) := atI_nat (qs_get hxa)
      have bx9 : Bd 900 x := hx x (List.mem_of_getElem? hxa)
      repeat' (first | refine o_ixS s0 a1 ?_ | refine ev_loc rfl ?_ | walk_at "yy")
      refine c_comparedV z bx9 by9 ?_
      repeat' walk_at "yy"
      · rename_i h2
        have h2 := cmp3_le.mp (of_decide_eq_true h2)
        refine ⟨ty_ref (List.Mem.head _), ?_⟩
        repeat' (first | refine o_ixS s0 a1 ?_ | walk_at "yy")
        refine m_append (Ma := []) (Mb := []) rfl (by rw [qs_len]; omega) ?_
        refine sj_aug rfl ?_
        repeat' walk_at "yy"
        refine ⟨xs.length - (a + 1), by omega, a + 1, zs ++ [x], rfl, rfl, ?_, mg1.left ox oy hxa hk h2⟩
        rw [qs_app]
        rfl
      · rename_i h2
        have h2 : y < x := by
          have : ¬ (x ≤ y) := fun q => of_decide_eq_false h2 (cmp3_le.mpr q)
          omega
        refine ⟨ty_ref (List.Mem.head _), ?_⟩
        repeat' walk_at "yy"
        refine m_append (Ma := []) (Mb := []) rfl (by rw [qs_len]; omega) ?_
        refine ⟨a, zs ++ [y], _, rfl, ?_, mg1.right ox oy hk fun x' hx' => ?_⟩
        · rw [qs_app]
          rfl
        · rw [hxa] at hx'
          cases hx'
          exact h2
    · exact absurd ‹false = true› (by decide)
    · rename_i h _
      rw [qs_len] at h
      have h := of_decide_eq_false h
      refine ⟨ty_ref (List.Mem.head _), ?_⟩
      repeat' walk_at "yy"
      refine m_append (Ma := []) (Mb := []) rfl (by rw [qs_len]; omega) ?_
      refine ⟨a, zs ++ [y], _, rfl, ?_, mg1.right ox oy hk fun x' hx' => ?_⟩
      · rw [qs_app]
        rfl
      · have := (List.getElem?_eq_some_iff.mp hx').1
        omega
  · rintro es M ⟨a, zs, e5, rfl, rfl, mg1⟩
    have zl := mg1.len
    rw [qs_len] at mg1
    obtain ⟨pm, so⟩ := mg1.done ox
    have fin : qs L zs ++ (qs L xs).drop a = qs L (srt (xs ++ ys)) := by
      rw [← qs_drop, ← qs_app, srt_of pm so]
    refine sj_fast [] [] rfl hp (.keep (.keep (.keep (.hit (.keep (.keep .nil)))))) ?_
    repeat' walk_at "yy"
    have cl := cut_from (qs L xs) (k := a) (by rw [qs_len]; exact mg1.le)
    refine sl_orS s0 (fun _ => ?_) (fun _ => ?_)
    · rw [cl]
      repeat' walk_at "yy"
      refine c_list (.lst _) ?_
      repeat' walk_at "yy"
      · rw [qs_len, List.length_drop, qs_len]
        omega
      exact congrArg PyData.list fin
    · rw [cl]
      repeat' walk_at "yy"
      refine c_list (.tup _) ?_
      repeat' walk_at "yy"
      · rw [qs_len, List.length_drop, qs_len]
        omega
      exact congrArg PyData.list fin
theorem ok_merged {f0 : Addr} {fd0 : FuncData} (m0 : mg "compared" = some (.ref f0)) (k0 : PySem.W.keepIn K (.ref f0) = true) (b0 : Binds K fd0 ["one", "other"] []) (F0 : FnG P w K mg base 1 f0 fd0 ["one", "other"] (spCmp K)) (D_merged_by : Has P w K mg base 2 "merged_by" ["order", "some", "others"] (SpF K f0 rMergeS)) (T : Stands K mg "merged" s_merged ["some", "others"]) : Has P w K mg base 3 "merged" ["some", "others"] (SpQ K rMergeS) := by
  refine hasQ T sc_merged (fun ds po ⟨d0, d1, L, xs, ys, e, _⟩ => by rw [e]; rfl) 0 rfl fun f cdv A outer s H E g hr => ⟨_, (pss_one (ps_ret (peD D_merged_by g hr (by first | decide | exact Nat.le_refl _ | omega) (by rfl) (pa_cons (pe_glob (v := .ref f0) (by rfl) m0 rfl) (pa_cons (pv 0) (pa_cons (pv 1) pa_nil)))))), ?_⟩
  try dsimp only [cxOf]
  rintro ds po ⟨d0, d1, L, xs, ys, rfl, s0, s1, z, hx, hy, lx, ly, ox, oy, rfl⟩
  refine sj_ret ?_
  refine ev_go ?_
  refine ea_cons ?_
  refine ev_fun ?_
  repeat' walk_at "yy"
  refine c_F (.cons (.cons .nil)) _ ⟨d0, d1, L, xs, ys, rfl, s0, s1, z, hx, hy, lx, ly, ox, oy, rfl⟩ ?_
  rintro _ rfl
  exact ⟨_, rfl, rfl⟩
theorem order_step {f0 : Addr} (n : Nat) (B : Bt mg) (D_merged_by : Has P w K mg base 2 "merged_by" ["order", "some", "others"] (SpF K f0 rMergeS)) (D_in_order_by : Has P w K mg base (n + 2) "in_order_by" ["order", "some"] (SpF K f0 (rOrdS n))) (T : Stands K mg "in_order_by" s_in_order_by ["order", "some"]) : Has P w K mg base (n + 3) "in_order_by" ["order", "some"] (SpF K f0 (rOrdS (n + 1))) := by
  refine hasF T sc_in_order_by (fun ds po ⟨L, ms, e, _⟩ => by rw [e]; rfl) 1 rfl fun f cdv A outer s H E g hr => ⟨_, (pss_cons (ps_if (pt_cmpR op_lt (pe_callB call_len_seq (by rfl) B.b_len (by decide +kernel) (pa_cons (pv 1) pa_nil)) pe_int (nomark _)) (pss_one (ps_ret (pe_callTy call_list_of (by rfl) B.b_list (by decide +kernel) (pa_cons (pv 1) pa_nil)))) pss_nil)
      (pss_cons (ps_set (i := 2) sc_in_order_by.nd rfl (by first | exact .inl rfl | exact .inr rfl) (pe_op op_divA (pe_callB call_len_seq (by rfl) B.b_len (by decide +kernel) (pa_cons (pv 1) pa_nil)) pe_int))
      (pss_one (ps_ret (peD D_merged_by g hr (by first | decide | exact Nat.le_refl _ | omega) (by rfl) (pa_cons (pv 0) (pa_cons (peD D_in_order_by g hr (by first | decide | exact Nat.le_refl _ | omega) (by rfl) (pa_cons (pv 0) (pa_cons (pe_slice sl_list (pv 1) po_none (po_some (pv 2))) pa_nil))) (pa_cons (peD D_in_order_by g hr (by first | decide | exact Nat.le_refl _ | omega) (by rfl) (pa_cons (pv 0) (pa_cons (pe_slice sl_list (pv 1) (po_some (pv 2)) po_none) pa_nil))) pa_nil)))))))), ?_⟩
  try dsimp only [cxOf]
  rintro ds po ⟨L, ms, rfl, z, hb, _, hl, h9, rfl⟩
  repeat' walk_at "yy"
  · refine c_list (.lst _) ?_
    repeat' walk_at "yy"
    rename_i h
    rw [qs_len] at h
    have h := of_decide_eq_true h
    rw [← srt_of (List.Perm.refl ms) (by
      match ms, h with
      | [], _ => exact List.Pairwise.nil
      | [x], _ => exact List.pairwise_singleton _ _
      | _ :: _ :: _, h => simp at h; omega)]
  rename_i h
  rw [qs_len] at *
  have h := of_decide_eq_false h
  have hn : 1 ≤ n := by
    cases n with
    | zero => simp at hl; omega
    | succ n => omega
  have hl2 : ms.length ≤ 2 ^ (n - 1) * 2 := by
    have e : n + 1 - 1 = (n - 1) + 1 := by omega
    rw [e, Nat.pow_succ] at hl
    exact hl
  obtain ⟨q, hq⟩ : ∃ q : Nat, ((ms.length : Nat) : Int) / 2 = (q : Int) ∧ q ≤ ms.length ∧ q ≤ 2 ^ (n - 1) ∧ ms.length - q ≤ 2 ^ (n - 1) := by
    refine ⟨ms.length / 2, ?_, by omega, by omega, by omega⟩
    omega
  obtain ⟨e1, q1, q2, q3⟩ := hq
  repeat' (first | refine o_divA (by decide) (by decide +kernel) ?_ | walk_at "yy")
  rw [e1]
  rw [cut_to _ (by rw [qs_len]; exact q1), ← qs_take]
  refine c_F (.cons .nil) _ ⟨L, ms.take q, rfl, z, fun x hx => hb x (List.mem_of_mem_take hx), hn, by rw [List.length_take]; omega, by rw [List.length_take]; omega, rfl⟩ ?_
  rintro _ rfl
  repeat' (first | refine o_divA (by decide) (by decide +kernel) ?_ | walk_at "yy")
  rw [cut_from _ (by rw [qs_len]; exact q1), ← qs_drop]
  refine c_F (.cons .nil) _ ⟨L, ms.drop q, rfl, z, fun x hx => hb x (List.mem_of_mem_drop hx), hn, by rw [List.length_drop]; omega, by rw [List.length_drop]; omega, rfl⟩ ?_
  rintro _ rfl
  repeat' walk_at "yy"
  refine c_F (.cons (.cons .nil)) _ ⟨_, _, L, srt (ms.take q), srt (ms.drop q), rfl, .lst _, .lst _, z, fun x hx => hb x (List.mem_of_mem_take (srt_mem hx)), fun x hx => hb x (List.mem_of_mem_drop (srt_mem hx)), by rw [srt_len, List.length_take]; omega, by rw [srt_len, List.length_drop]; omega, srt_asc _, srt_asc _, rfl⟩ ?_
  rintro _ rfl
  refine ⟨_, rfl, ?_⟩
  have pc : (srt (ms.take q) ++ srt (ms.drop q)).Perm ms := by
    refine ((srt_perm _).append (srt_perm _)).trans ?_
    rw [List.take_append_drop]
  rw [srt_eq pc]
-- LEVEL ok_in_order_by 8
theorem ok_in_order_by {f0 : Addr} {fd0 : FuncData} (B : Bt mg) (m0 : mg "compared" = some (.ref f0)) (k0 : PySem.W.keepIn K (.ref f0) = true) (b0 : Binds K fd0 ["one", "other"] []) (F0 : FnG P w K mg base 1 f0 fd0 ["one", "other"] (spCmp K)) (D_merged_by : Has P w K mg base 2 "merged_by" ["order", "some", "others"] (SpF K f0 rMergeS)) (T : Stands K mg "in_order_by" s_in_order_by ["order", "some"]) : ∀ n, Has P w K mg base (n + 2) "in_order_by" ["order", "some"] (SpF K f0 (rOrdS n))
  | 0 => by
    obtain ⟨f, fd, m, F, b⟩ := T.ex
    refine ⟨f, fd, m, F.kp, b, ⟨fun vs H Q E h => ?_, fun A outer s H args us vs Q _ _ _ _ _ h => ?_⟩⟩
    · obtain ⟨G, v2, ds, po, _, _, _, ⟨L, ms, _, _, _, h0, _⟩, _⟩ := h
      omega
    · obtain ⟨G, v2, ds, po, _, _, _, ⟨L, ms, _, _, _, h0, _⟩, _⟩ := h
      omega
  | n + 1 => order_step n B D_merged_by (ok_in_order_by B m0 k0 b0 F0 D_merged_by T n) T
theorem ok_p_order {f0 : Addr} {fd0 : FuncData} (m0 : mg "compared" = some (.ref f0)) (k0 : PySem.W.keepIn K (.ref f0) = true) (b0 : Binds K fd0 ["one", "other"] []) (F0 : FnG P w K mg base 1 f0 fd0 ["one", "other"] (spCmp K)) (D_in_order_by : Has P w K mg base 10 "in_order_by" ["order", "some"] (SpF K f0 (rOrdS 8))) (T : Stands K mg "in_order" s_in_order ["some"]) : Has P w K mg base 11 "in_order" ["some"] (SpQ K rOrderS) := by
  refine hasQ T sc_in_order (fun ds po ⟨L, ms, e, _⟩ => by rw [e]; rfl) 0 rfl fun f cdv A outer s H E g hr => ⟨_, (pss_one (ps_ret (peD D_in_order_by g hr (by first | decide | exact Nat.le_refl _ | omega) (by rfl) (pa_cons (pe_glob (v := .ref f0) (by rfl) m0 rfl) (pa_cons (pv 0) pa_nil))))), ?_⟩
  try dsimp only [cxOf]
  rintro ds po ⟨L, ms, rfl, z, hb, hl, rfl⟩
  refine sj_ret ?_
  refine ev_go ?_
  refine ea_cons ?_
  refine ev_fun ?_
  repeat' walk_at "yy"
  refine c_F (.cons .nil) _ ⟨L, ms, rfl, z, hb, by decide, hl, by omega, rfl⟩ ?_
  rintro _ rfl
  exact ⟨_, rfl, rfl⟩
theorem ok_cell_moments (D_added : Has P w K mg base 1 "added" ["one", "other"] (spAdd K)) (B : Bt mg) (T : Stands K mg "cell_moments" s_cell_moments ["telling"]) : Has P w K mg base 2 "cell_moments" ["telling"] (SpQ K (rMoments .tuple)) := by
  refine hasQ T sc_cell_moments (fun ds po ⟨L, m, ms, e, _⟩ => by rw [e]; rfl) 4 rfl fun f cdv A outer s H E g hr => ⟨_, (pss_cons (ps_asg (pv 0) (pg_tup rfl (pgs_cons (pg_name (i := 1) sc_cell_moments.nd rfl (by first | exact .inl rfl | exact .inr rfl)) (pgs_cons (pg_name (i := 2) sc_cell_moments.nd rfl (by first | exact .inl rfl | exact .inr rfl)) pgs_nil))))
      (pss_cons (ps_set (i := 3) sc_cell_moments.nd rfl (by first | exact .inl rfl | exact .inr rfl) (pe_lst (pa_cons (pv 1) pa_nil)))
      (pss_cons (ps_for PassesOwn.never rfl (pi_tup (pv 2)) (pg_name (i := 4) sc_cell_moments.nd rfl (by first | exact .inl rfl | exact .inr rfl)) (pss_cons (ps_set (i := 1) sc_cell_moments.nd rfl (by first | exact .inl rfl | exact .inr rfl) (peD D_added g hr (by first | decide | exact Nat.le_refl _ | omega) (by rfl) (pa_cons (pv 1) (pa_cons (pv 4) pa_nil))))
      (pss_one (ps_expr (pe_bm PySem.F.plainAttrs_list PySem.F.slot_list_append PySem.F.type_list_append mt_append (pv 3) (pa_cons (pv 1) pa_nil))))))
      (pss_one (ps_ret (pe_callTy call_tuple_of (by rfl) B.b_tuple (by decide +kernel) (pa_cons (pv 3) pa_nil))))))), ?_⟩
  try dsimp only [cxOf]
  rintro ds po ⟨L, m, ms, rfl, z, sm, rfl⟩
  repeat' walk_at "yy"
  intro p hp
  repeat' walk_at "yy"
  refine sj_for ?_
  repeat' walk_at "yy"
  refine ⟨fun k es M => ∃ e4, es = [.dat (telD L m ms), .dat (frq (qv L (m + (ms.take k).sum))), .dat (.tuple (qs L ms)), .ref p, e4] ∧ M = [(p, .lst (qs L (sums m (ms.take k))))], ⟨.no, by simp, rfl⟩, ?_, ?_⟩
  · rintro k d es M hd ⟨e4, rfl, rfl⟩
    obtain ⟨x, hk, rfl⟩ := qs_at hd
    have hkl := (List.getElem?_eq_some_iff.mp hk).1
    have b1 : Bd 900 (m + (ms.take k).sum) := (sm.part (by omega)).up (by decide)
    have b2 : Bd 900 x := (sm.s x (List.mem_of_getElem? hk)).up (by decide)
    repeat' (first | exact z | exact b1 | exact b2 | walk_at "yy")
    refine ⟨ty_ref (List.Mem.head _), ?_⟩
    repeat' walk_at "yy"
    refine m_append (Ma := []) (Mb := []) rfl (by have := sm.l; rw [qs_len, sums_len, List.length_take]; omega) ?_
    refine ⟨.dat (frq (qv L x)), ?_, ?_⟩
    · rw [take_snoc hk, List.sum_append]
      simp [Int.add_assoc]
    · rw [take_snoc hk, sums_snoc, qs_app]
      rfl
  · rintro es M ⟨e4, rfl, rfl⟩
    rw [qs_len, List.take_length]
    refine sj_fast [] [] rfl hp (.keep (.keep (.keep (.hit (.keep .nil))))) ?_
    repeat' walk_at "yy"
    refine c_tuple (.lst _) ?_
    repeat' walk_at "yy"
    rfl

theorem ok_mark_moments (B : Bt mg) (D_cell_moments : Has P w K mg base 2 "cell_moments" ["telling"] (SpQ K (rMoments .tuple))) (D_cells_of : Has P w K mg base 1 "cells_of" ["row"] (SpQ K rCells)) (T : Stands K mg "mark_moments" s_mark_moments ["telling", "row"]) : Has P w K mg base 3 "mark_moments" ["telling", "row"] (SpQ K (rMarks .tuple)) := by
  refine hasQ T sc_mark_moments (fun ds po ⟨L, m, ms, ns, e, _⟩ => by rw [e]; rfl) 2 rfl fun f cdv A outer s H E g hr => ⟨_, (pss_cons (ps_set (i := 2) sc_mark_moments.nd rfl (by first | exact .inl rfl | exact .inr rfl) (peD D_cell_moments g hr (by first | decide | exact Nat.le_refl _ | omega) (by rfl) (pa_cons (pv 0) pa_nil)))
      (pss_one (ps_ret (pe_callTy call_tuple_of (by rfl) B.b_tuple (by decide +kernel) (pa_cons (pe_lc (own := [("cell", 3)]) (g := gName 3) (tt := tYes) rfl sc_mark_moments.nd (pi_tup (peD D_cells_of g hr (by first | decide | exact Nat.le_refl _ | omega) (by rfl) (pa_cons (pv 1) pa_nil))) (blkOk_by (N := N_mark_moments) (sc := defScope s_mark_moments) (by decide +kernel)) (fun _ _ _ _ _ => (pg_name (i := 3) sc_mark_moments.nd rfl (by first | exact .inl rfl | exact .inr rfl))) (fun _ _ _ _ _ => pts_nil) (fun _ _ _ _ _ => (pe_ix (ixtK (K := K) rfl) (pv 2) (pv 3) (fun _ _ => rfl)))) pa_nil))))), ?_⟩
  try dsimp only [cxOf]
  rintro ds po ⟨L, m, ms, ns, rfl, z, sm, hw, rfl⟩
  repeat' (first | exact z | exact sm | walk_at "yy")
  refine ev_lc (own_name (by decide)) ?_
  repeat' walk_at "yy"
  refine c_cells hw.l ?_
  repeat' walk_at "yy"
  refine ⟨fun k acc M => acc = qs L (((sums 0 ns).take k).map fun c => m + (ms.take c.toNat).sum), by simp [qs], fun k d acc M hd e => ?_, fun acc M e => ?_⟩
  · obtain ⟨c, hk, rfl⟩ := ints_at hd
    have hkl := (List.getElem?_eq_some_iff.mp hk).1
    refine ⟨by rw [e, qs_len, List.length_map, List.length_take, sums_len]; have := hw.l; omega, ?_⟩
    have hc := hw.mark L m (List.mem_of_getElem? hk)
    repeat' (first | exact absurd ‹true = false› (by decide) | refine o_ixT hc ?_ | walk_at "yy")
    show _ = _
    rw [e, map_snoc hk, qs_app]
    rfl
  · rw [List.length_map, List.take_length] at e
    subst e
    repeat' walk_at "yy"
    refine c_tuple (.lst _) ?_
    repeat' walk_at "yy"
    rfl

theorem ok_hearing_of (B : Bt mg) (D_mark_moments : Has P w K mg base 3 "mark_moments" ["telling", "row"] (SpQ K (rMarks .tuple))) (D_added : Has P w K mg base 1 "added" ["one", "other"] (spAdd K)) (D_in_order : Has P w K mg base 11 "in_order" ["some"] (SpQ K rOrderS)) (T : Stands K mg "hearing_of" s_hearing_of ["telling", "row", "shifts"]) : Has P w K mg base 12 "hearing_of" ["telling", "row", "shifts"] (SpQ K rHearS) := by
  refine hasQ T sc_hearing_of (fun ds po ⟨L, m, ms, ns, ss, e, _⟩ => by rw [e]; rfl) 2 rfl fun f cdv A outer s H E g hr => ⟨_, (pss_one (ps_ret (pe_callTy call_tuple_of (by rfl) B.b_tuple (by decide +kernel) (pa_cons (peD D_in_order g hr (by first | decide | exact Nat.le_refl _ | omega) (by rfl) (pa_cons (pe_lc (own := [("moment", 3), ("shift", 4)]) (g := gTup _ 2 (gCons (gName 3) (gCons (gName 4) (gNil)))) (tt := tYes) rfl sc_hearing_of.nd (RZ.pi_zipA (by rfl) B.b_zip (pa_cons (peD D_mark_moments g hr (by first | decide | exact Nat.le_refl _ | omega) (by rfl) (pa_cons (pv 0) (pa_cons (pv 1) pa_nil))) (pa_cons (pv 2) pa_nil))) (blkOk_by (N := N_hearing_of) (sc := defScope s_hearing_of) (by decide +kernel)) (fun _ _ _ _ _ => (pg_tup rfl (pgs_cons (pg_name (i := 3) sc_hearing_of.nd rfl (by first | exact .inl rfl | exact .inr rfl)) (pgs_cons (pg_name (i := 4) sc_hearing_of.nd rfl (by first | exact .inl rfl | exact .inr rfl)) pgs_nil)))) (fun _ _ _ _ _ => pts_nil) (fun _ _ _ _ _ => (peD D_added g hr (by first | decide | exact Nat.le_refl _ | omega) (by rfl) (pa_cons (pv 3) (pa_cons (pv 4) pa_nil))))) pa_nil)) pa_nil)))), ?_⟩
  try dsimp only [cxOf]
  rintro ds po ⟨L, m, ms, ns, ss, rfl, z, sm, hw, nl, sl, sb, rfl⟩
  repeat' walk_at "yy"
  refine ev_lc (own_pair (by decide) (by decide)) ?_
  repeat' walk_at "yy"
  refine c_marks z sm hw ?_
  repeat' walk_at "yy"
  refine ⟨_, _, .inr rfl, ?_⟩
  rw [zipD_qs]
  have mb := marks_bd hw sm
  have zl : ((marks m ms ns).zip ss).length ≤ 126 := by rw [List.length_zip, marks_len]; omega
  have pr : ∀ p ∈ (marks m ms ns).zip ss, Bd 720 p.1 ∧ Bd 720 p.2 := fun p hp => by
    have hm := List.of_mem_zip (a := p.1) (b := p.2) hp
    exact ⟨mb _ hm.1, sb _ hm.2⟩
  refine ⟨fun k acc M => acc = qs L ((((marks m ms ns).zip ss).take k).map fun p => p.1 + p.2), by simp [qs], fun k d acc M hd e => ?_, fun acc M e => ?_⟩
  · obtain ⟨p, hk, rfl⟩ := map_at hd
    obtain ⟨b1, b2⟩ := pr p (List.mem_of_getElem? hk)
    have al : acc.length ≤ 126 := by rw [e, qs_len, List.length_map, List.length_take]; omega
    refine ⟨by omega, ?_⟩
    repeat' (first | exact z | exact b1.up (by decide) | exact b2.up (by decide) | exact absurd ‹true = false› (by decide) | walk_at "yy")
    show _ = _
    rw [e, map_snoc hk, qs_app]
    rfl
  rw [List.length_map, List.take_length] at e
  subst e
  repeat' walk_at "yy"
  refine c_Q (.cons .nil) _ ⟨L, _, rfl, z, fun x hx => ?_, by rw [List.length_map]; omega, rfl⟩ fun r er => ?_
  · obtain ⟨p, hp, rfl⟩ := List.mem_map.mp hx
    obtain ⟨b1, b2⟩ := pr p hp
    exact (Bd.add b1 b2).up (by decide)
  subst er
  repeat' walk_at "yy"
  refine c_tuple (.lst _) ?_
  refine ⟨_, rfl, ?_⟩
  rw [List.map_zip_eq_zipWith]
  rfl
theorem ok_heard_back (B : Bt mg) (D_negated : Has P w K mg base 1 "negated" ["one"] (spNeg K)) (T : Stands K mg "heard_back" s_heard_back ["hearing"]) : Has P w K mg base 2 "heard_back" ["hearing"] (SpQ K rBackS) := by
  refine hasQ T sc_heard_back (fun ds po ⟨L, xs, e, _⟩ => by rw [e]; rfl) 1 rfl fun f cdv A outer s H E g hr => ⟨_, (pss_one (ps_ret (pe_callTy call_tuple_of (by rfl) B.b_tuple (by decide +kernel) (pa_cons (pe_lc (own := [("moment", 1)]) (g := gName 1) (tt := tYes) rfl sc_heard_back.nd (pi_tup (pe_revT (pv 0))) (blkOk_by (N := N_heard_back) (sc := defScope s_heard_back) (by decide +kernel)) (fun _ _ _ _ _ => (pg_name (i := 1) sc_heard_back.nd rfl (by first | exact .inl rfl | exact .inr rfl))) (fun _ _ _ _ _ => pts_nil) (fun _ _ _ _ _ => (peD D_negated g hr (by first | decide | exact Nat.le_refl _ | omega) (by rfl) (pa_cons (pv 1) pa_nil)))) pa_nil)))), ?_⟩
  try dsimp only [cxOf]
  rintro ds po ⟨L, xs, rfl, z, hl, rfl⟩
  repeat' walk_at "yy"
  refine ev_lc (own_name (by decide)) ?_
  repeat' walk_at "yy"
  rw [← qs_rev]
  refine ⟨fun k acc M => acc = qs L ((xs.reverse.take k).map fun x => -x), by simp [qs], fun k d acc M hd e => ?_, fun acc M e => ?_⟩
  · obtain ⟨x, hk, rfl⟩ := qs_at hd
    have al : acc.length ≤ xs.length := by rw [e, qs_len, List.length_map, List.length_take, List.length_reverse]; omega
    refine ⟨by omega, ?_⟩
    repeat' (first | exact z | exact absurd ‹true = false› (by decide) | walk_at "yy")
    show _ = _
    rw [e, map_snoc hk, qs_app]
    rfl
  · rw [qs_len, List.take_length] at e
    subst e
    repeat' walk_at "yy"
    refine c_tuple (.lst _) ?_
    repeat' walk_at "yy"
    rfl
theorem ok_harmed (B : Bt mg) (D_merged : Has P w K mg base 3 "merged" ["some", "others"] (SpQ K rMergeS)) (T : Stands K mg "harmed" s_harmed ["hearing", "harm"]) : Has P w K mg base 4 "harmed" ["hearing", "harm"] (SpQ K rHarmedS) := by
  refine hasQ T sc_harmed (fun ds po ⟨L, hs, h, e, _⟩ => by rw [e]; rfl) 4 rfl fun f cdv A outer s H E g hr => ⟨_, (pss_cons (ps_asg (pv 1) (pg_tup rfl (pgs_cons (pg_name (i := 2) sc_harmed.nd rfl (by first | exact .inl rfl | exact .inr rfl)) (pgs_cons (pg_name (i := 3) sc_harmed.nd rfl (by first | exact .inl rfl | exact .inr rfl)) pgs_nil))))
      (pss_cons (ps_if (pt_cmpR op_eq (pv 2) pe_str (nomark _)) (pss_one (ps_ret (pe_callTy call_tuple_of (by rfl) B.b_tuple (by decide +kernel) (pa_cons (peD D_merged g hr (by first | decide | exact Nat.le_refl _ | omega) (by rfl) (pa_cons (pv 0) (pa_cons (pv 3) pa_nil))) pa_nil)))) pss_nil)
      (pss_one (ps_ret (pe_callTy call_tuple_of (by rfl) B.b_tuple (by decide +kernel) (pa_cons (pe_lc (own := [("index", 4), ("moment", 5)]) (g := gTup _ 2 (gCons (gName 4) (gCons (gName 5) (gNil)))) (tt := _) rfl sc_harmed.nd (pi_enumT (by rfl) B.b_enumerate (pa_cons (pv 0) pa_nil)) (blkOk_by (N := N_harmed) (sc := defScope s_harmed) (by decide +kernel)) (fun _ _ _ _ _ => (pg_tup rfl (pgs_cons (pg_name (i := 4) sc_harmed.nd rfl (by first | exact .inl rfl | exact .inr rfl)) (pgs_cons (pg_name (i := 5) sc_harmed.nd rfl (by first | exact .inl rfl | exact .inr rfl)) pgs_nil)))) (fun _ _ _ _ _ => pts_one (pt_cmpR (op_notInK (K := K) rfl) (pv 4) (pv 3) (by with_unfolding_all rfl))) (fun _ _ _ _ _ => (pv 5))) pa_nil)))))), ?_⟩
  try dsimp only [cxOf]
  rintro ds po ⟨L, hs, h, rfl, z, hk, hb, hl, up, rfl⟩
  cases h with
  | mis js =>
    obtain ⟨jl, jb⟩ := hk
    unfold hD
    dsimp only
    repeat' (first | exact absurd ‹decide (Str.ofString "missed" = Str.ofString "clicks") = true› (by decide) | walk_at "yy")
    refine ev_lc (own_pair (by decide) (by decide)) ?_
    repeat' walk_at "yy"
    refine ⟨fun k acc M => acc = qs L (missT js hs k) ∧ M = [], ⟨rfl, rfl⟩, fun k d acc M hd e => ?_, fun acc M e => ?_⟩
    · obtain ⟨rfl, rfl⟩ := e
      obtain ⟨x, hx, rfl⟩ := enumD_at hd
      obtain ⟨y, hy, rfl⟩ := qs_at hx
      have hkl := (List.getElem?_eq_some_iff.mp hy).1
      refine ⟨?_, ?_⟩
      · rw [qs_len]
        have h1 := missT_len js hs k
        omega
      repeat' (first | refine o_notInI (ns := js) (.tup _) ?_ | walk_at "yy")
      · rename_i h
        refine ⟨?_, rfl⟩
        rw [missT_no (by simpa using h) hy, qs_app]
        rfl
      · rename_i h
        refine ⟨?_, rfl⟩
        rw [missT_yes (by simpa using h)]
    obtain ⟨rfl, rfl⟩ := e
    rw [show (enumD 0 (qs L hs)).length = hs.length by rw [enumD_len, qs_len]]
    repeat' walk_at "yy"
    refine c_tuple (.lst _) ?_
    repeat' walk_at "yy"
    rfl
  | cli ws =>
    obtain ⟨wl, wu, wb⟩ := hk
    unfold hD
    dsimp only
    repeat' (first | exact absurd ‹decide (Str.ofString "clicks" = Str.ofString "clicks") = false› (by decide) | walk_at "yy")
    refine c_Q (.cons (.cons .nil)) _ ⟨_, _, L, hs, ws, rfl, .tup _, .tup _, z, fun x hx => (hb x hx).up (by decide), fun x hx => (wb x hx).up (by decide), by omega, by omega, up, wu, rfl⟩ fun r er => ?_
    subst er
    repeat' walk_at "yy"
    refine c_tuple (.lst _) ?_
    repeat' walk_at "yy"
    rfl
end
end K34

set_option Elab.async false
set_option linter.all false
set_option maxRecDepth 100000
set_option maxHeartbeats 1000000
set_option exponentiation.threshold 20000
namespace K34
open PySem PySem.Spec PyProof.Rows L2 Yw
local macro_rules | `(tactic| walk_at "ye") => `(tactic| first
  | ((with_reducible show Ev _ (tVar _) _ _ _); first | refine ev_dat rfl ?_ | refine ev_ref rfl ?_ | refine ev_var rfl (fun z => nomatch z) ?_)
  | ((with_reducible show Ev _ (tC _) _ _ _); first | with_reducible refine ev_int ?_ | with_reducible refine ev_bl ?_ | with_reducible refine ev_non ?_ | with_reducible refine ev_str ?_ | with_reducible refine ev_ty ?_)
  | with_reducible refine ev_op ?_
  | with_reducible refine ev_un ?_
  | with_reducible refine ev_go ?_
  | with_reducible refine ev_cb ?_
  | with_reducible refine ev_tupD ?_
  | with_reducible refine ev_lstD ?_
  | with_reducible refine ev_chain ?_
  | with_reducible refine ev_if ?_
  | with_reducible refine ev_andV ?_
  | with_reducible refine ev_orV ?_
  | with_reducible refine ev_notV ?_
  | with_reducible refine ev_sl ?_
  | with_reducible refine ev_bm ?_)
local macro_rules | `(tactic| walk_at "ya") => `(tactic| first
  | with_reducible refine ea_cons ?_
  | with_reducible refine ea_nil ?_
  | with_reducible refine eo_none ?_
  | with_reducible refine eo_some ?_
  | with_reducible refine et_test ?_
  | with_reducible refine et_B ?_
  | with_reducible refine et_and ?_
  | with_reducible refine et_or ?_
  | with_reducible refine et_not ?_
  | with_reducible refine et_yes ?_
  | with_reducible refine tg_name ?_
  | with_reducible refine tgs_nil ?_
  | with_reducible refine tgs_cons ?_
  | ((with_reducible show Tg _ (gTup _ _ _) _ _ _ _); refine tg_tup rfl ?_)
  | with_reducible refine tg_sub ?_)
local macro_rules | `(tactic| walk_at "ys") => `(tactic| first
  | with_reducible refine sj_seq ?_
  | with_reducible refine sj_next ?_
  | with_reducible refine sj_newD ?_
  | with_reducible refine sj_set ?_
  | with_reducible refine sj_par ?_
  | with_reducible refine sj_ret ?_
  | with_reducible refine sj_drop ?_
  | with_reducible refine sj_if ?_
  | with_reducible refine sj_asg ?_
  | with_reducible refine sj_augS ?_
  | with_reducible refine iw_seq ?_
  | with_reducible refine iw_zip ?_
  | with_reducible refine iw_list ?_
  | with_reducible refine iw_tup ?_
  | with_reducible refine iw_r1 ?_
  | with_reducible refine iw_r2 ?_
  | with_reducible refine iw_enumT ?_)
local macro_rules | `(tactic| walk_at "yo") => `(tactic| first
  | with_reducible refine o_int ?_
  | with_reducible refine o_bool ?_
  | with_reducible refine o_mul (by first | exact mulR ⟨by decide, by decide⟩ | exact mulL ⟨by decide, by decide⟩) ?_
  | with_reducible refine o_mul ?_ ?_
  | with_reducible refine o_mod (by decide) ?_
  | with_reducible refine o_mod ?_ ?_
  | with_reducible refine o_div (by decide) (by decide +kernel) ?_
  | with_reducible refine o_cat ?_ ?_
  | with_reducible refine o_catT ?_ ?_
  | ((with_reducible show Op2 _ (rIxL _) (Ent.ref _) _ _ _); refine o_ixM (List.Mem.head _) rfl ?_)
  | with_reducible refine o_eqI ?_
  | with_reducible refine o_neI ?_
  | with_reducible refine o_eqS ?_
  | with_reducible refine o_neS ?_
  | with_reducible refine o_neg ?_
  | ((with_reducible show Op2 _ (rIxT _) _ _ _ _); refine o_ixT rfl ?_)
  | ((with_reducible show Op2 _ (rIxL _) (Ent.dat _) _ _ _); refine o_ixL rfl ?_)
  | ((with_reducible show Op2 _ (rI CPow _) _ _ _ _); refine o_pow ⟨by decide, by decide, by decide⟩ rfl ?_)
  | with_reducible refine c_abs ?_
  | with_reducible refine c_int ?_
  | with_reducible refine c_min2 ?_
  | with_reducible refine c_max2 ?_
  | with_reducible refine c_gcd ?_
  | with_reducible refine sl_L ?_
  | with_reducible refine c_len (.lst _) ?_
  | with_reducible refine c_len (.tup _) ?_)
local macro_rules | `(tactic| walk_at "yx") => `(tactic| first
  | with_reducible refine ⟨_, rfl, ?_⟩
  | with_reducible refine ⟨_, _, rfl, ?_⟩
  | with_reducible refine ⟨fun _ => ?_, fun _ => ?_⟩
  | ((with_reducible show ∃ _ _ _ _ _ _, _ = _ ∧ _ = _ ∧ _ = _ ∧ _ = _ ∧ _); refine ⟨[], _, _, _, _, _, rfl, rfl, rfl, rfl, ?_⟩)
  | ((with_reducible show ∃ _ _ _ _ _, _ = _ ∧ _ = _ ∧ _ ∧ _ ∧ _ ∧ _ = _ ∧ _ = _ ∧ _); refine ⟨_, _, _, _, _, rfl, rfl, List.Mem.head _, by decide, by decide, rfl, rfl, ?_⟩)
  | ((with_reducible show ∃ _ _ _, _ = _ ∧ _ = _ ∧ _); refine ⟨[], _, _, rfl, rfl, ?_⟩)
  | ((with_reducible show ∃ _, Ds _ _ ∧ _ ∧ _); refine ⟨_, (by repeat (first | exact Ds.nil | apply Ds.cons)), (by simp), ?_⟩))
local macro_rules | `(tactic| walk_at "yy") => `(tactic| first | walk_at "ye" | walk_at "ya" | walk_at "ys" | walk_at "yo" | walk_at "yx" | walk_at "yc")

local macro_rules | `(tactic| walk_at "yc") => `(tactic| first | with_reducible refine ev_revT ?_ | with_reducible refine c_isiI ?_ | with_reducible refine c_isiB ?_ | with_reducible refine c_isiT ?_ | with_reducible refine c_isiS ?_)
/-! ### the readings -/
def intI : PyData → Bool
  | .int _ => true
  | _ => false
def runB (lo most : Int) : PyData → Bool
  | .int i => decide (lo ≤ i) && decide (i ≤ most)
  | _ => false
def rowB (lo most : Int) : PyData → Bool
  | .tuple xs => xs.all (runB lo most)
  | _ => false
def isI (n : Int) : PyData → Bool
  | .int i => decide (i = n)
  | _ => false
def ledB (lo most le : Int) : PyData → Bool
  | .tuple xs => xs.all (runB lo most) && (decide (le ≤ xs.length) && (xs.take le.toNat).all (isI most))
  | _ => false
def sumI : List PyData → Int
  | [] => 0
  | .int i :: xs => i + sumI xs
  | _ :: xs => sumI xs
def bodyB (lo most data : Int) : PyData → Bool
  | .tuple xs => xs.all (runB lo most) && decide (sumI xs = data)
  | _ => false
def fullB (lo most le data : Int) : PyData → Bool
  | .tuple xs => (ledB lo most le (.tuple xs) && decide (2 * le ≤ xs.length)) && ((xs.drop (xs.length - le.toNat)).all (isI most) && bodyB lo most data (.tuple ((xs.drop le.toNat).take (xs.length - le.toNat - le.toNat))))
  | _ => false
theorem ledB_t {lo most le : Int} {xs : List PyData} : ledB lo most le (.tuple xs) = (xs.all (runB lo most) && (decide (le ≤ xs.length) && (xs.take le.toNat).all (isI most))) := rfl
theorem bodyB_t {lo most data : Int} {xs : List PyData} : bodyB lo most data (.tuple xs) = (xs.all (runB lo most) && decide (sumI xs = data)) := rfl
theorem fullB_t {lo most le data : Int} {xs : List PyData} : fullB lo most le data (.tuple xs) = ((ledB lo most le (.tuple xs) && decide (2 * le ≤ xs.length)) && ((xs.drop (xs.length - le.toNat)).all (isI most) && bodyB lo most data (.tuple ((xs.drop le.toNat).take (xs.length - le.toNat - le.toNat))))) := rfl
def rIsInt : RR := fun ds po => ∃ d, ds = [d] ∧ po = fun r => r = .bool (intI d)
def rIsRun : RR := fun ds po => ∃ c dr sh lo most le d, ds = [bdD c dr sh lo most le, d] ∧ po = fun r => r = .bool (runB lo most d)
def rIsRow : RR := fun ds po => ∃ c dr sh lo most le d, ds = [bdD c dr sh lo most le, d] ∧ (∀ xs, d = .tuple xs → xs.length ≤ 1000) ∧ po = fun r => r = .bool (rowB lo most d)
def rAreAll : RR := fun ds po => ∃ (n : Int) (xs : List PyData), ds = [.int n, .tuple xs] ∧ xs.all intI = true ∧ xs.length ≤ 1000 ∧ po = fun r => r = .bool (xs.all (isI n))
def rIsLed : RR := fun ds po => ∃ c dr sh lo most le d, ds = [bdD c dr sh lo most le, d] ∧ 0 ≤ le ∧ (∀ xs, d = .tuple xs → xs.length ≤ 1000) ∧ po = fun r => r = .bool (ledB lo most le d)
abbrev fmD (b : PyData) (data m s : Int) : PyData := .tuple [b, .int data, .int m, .int s]
def rIsBody : RR := fun ds po => ∃ c dr sh lo most le data m s d, ds = [fmD (bdD c dr sh lo most le) data m s, d] ∧ most ≤ 16 ∧ 0 ≤ lo ∧ (∀ xs, d = .tuple xs → xs.length ≤ 1000) ∧ po = fun r => r = .bool (bodyB lo most data d)
def rIsFull : RR := fun ds po => ∃ c dr sh lo most le data m s d, ds = [fmD (bdD c dr sh lo most le) data m s, d] ∧ most ≤ 16 ∧ 0 ≤ lo ∧ 0 ≤ le ∧ le ≤ 8 ∧ (∀ xs, d = .tuple xs → xs.length ≤ 1000) ∧ po = fun r => r = .bool (fullB lo most le data d)
theorem tup_or (d : PyData) : (∃ xs, d = .tuple xs) ∨ tupK d = false := by
  cases d
  all_goals first | exact .inl ⟨_, rfl⟩ | exact .inr rfl
theorem int_or (d : PyData) : (∃ i, d = .int i) ∨ intI d = false := by
  cases d
  all_goals first | exact .inl ⟨_, rfl⟩ | exact .inr rfl
theorem run_int {lo most : Int} {d : PyData} (h : runB lo most d = true) : intI d = true := by
  rcases int_or d with ⟨i, rfl⟩ | hd
  · rfl
  · cases d <;> first | cases h | cases hd
theorem run_all {lo most : Int} {xs : List PyData} (h : xs.all (runB lo most) = true) : xs.all intI = true := List.all_eq_true.mpr fun x hx => run_int (List.all_eq_true.mp h x hx)
theorem all_sub {f : PyData → Bool} {xs ys : List PyData} (h : ys.all f = true) (g : ∀ x ∈ xs, x ∈ ys) : xs.all f = true := List.all_eq_true.mpr fun x hx => List.all_eq_true.mp h x (g x hx)
theorem all_ints : ∀ {xs : List PyData}, xs.all intI = true → ∃ ns : List Int, xs = ns.map PyData.int
  | [], _ => ⟨[], rfl⟩
  | d :: xs, h => by
    rw [List.all_cons, Bool.and_eq_true] at h
    obtain ⟨ns, rfl⟩ := all_ints h.2
    obtain ⟨i, rfl⟩ := (int_or d).resolve_right (by rw [h.1]; decide)
    exact ⟨i :: ns, rfl⟩
theorem sum_ints : ∀ ns : List Int, sumI (ns.map PyData.int) = ns.sum
  | [] => rfl
  | n :: ns => by
    rw [List.map_cons, sumI, sum_ints ns, List.sum_cons]
theorem cut_both (ds : List PyData) {a b : Nat} (h1 : a ≤ b) (h2 : b ≤ ds.length) : cutY ds (some (a : Int)) (some (b : Int)) = (ds.drop a).take (b - a) := by
  unfold cutY
  rw [HT.sIx_nat ds.length 0 a, HT.sIx_nat ds.length ds.length b, Nat.min_eq_left (show a ≤ ds.length by omega), Nat.min_eq_left h2]
theorem row_no {lo most : Int} {d : PyData} (h : tupK d = false) : rowB lo most d = false := by
  cases d <;> first | rfl | cases h
theorem run_no {lo most : Int} {d : PyData} (h : intI d = false) : runB lo most d = false := by
  cases d <;> first | rfl | cases h
theorem led_no {lo most le : Int} {d : PyData} (h : tupK d = false) : ledB lo most le d = false := by
  cases d <;> first | rfl | cases h
theorem body_no {lo most n : Int} {d : PyData} (h : tupK d = false) : bodyB lo most n d = false := by
  cases d <;> first | rfl | cases h
theorem full_no {lo most le n : Int} {d : PyData} (h : tupK d = false) : fullB lo most le n d = false := by
  cases d <;> first | rfl | cases h
theorem bools_snoc {xs : List PyData} {f : PyData → Bool} {k : Nat} {x : PyData} (h : xs[k]? = some x) : ((xs.take (k + 1)).map f).map PyData.bool = ((xs.take k).map f).map PyData.bool ++ [.bool (f x)] := by
  rw [take_snoc h, List.map_append, List.map_append]
  rfl
theorem all_map (xs : List PyData) (f : PyData → Bool) : (xs.map f).all id = xs.all f := by
  rw [List.all_map]
  rfl
/-! ### reels and nights -/
abbrev OptRow := Option (List Int)
structure Item where
  m : Int
  ms : List Int
  ss : List Int
  h : Harm
def slotD : OptRow → PyData
  | none => .none
  | some r => rowD r
def itemD (L : Int) : Option Item → PyData
  | none => .none
  | some i => .tuple [telD L i.m i.ms, .tuple (qs L i.ss), hD L i.h]
structure ItemOk (row : List Int) (i : Item) : Prop where
  sm : Sm i.m i.ms
  rw : Rw row i.ms
  rl : row.length ≤ 60
  ml : i.ms.length ≤ 60
  sl : i.ss.length = row.length + 1
  bm : Bd 450 i.m
  bs : ∀ x ∈ i.ms, Bd 450 x
  bb : ∀ s ∈ i.ss, Bd 450 s
  hk : HarmOk i.h
def hears (row : List Int) (i : Item) : List Int := srt (List.zipWith (· + ·) (marks i.m i.ms row) i.ss)
theorem hears_len {row : List Int} {i : Item} (h : ItemOk row i) : (hears row i).length = row.length + 1 := by
  unfold hears
  rw [srt_len, List.length_zipWith, marks_len, h.sl, Nat.min_self]
theorem hears_bd {row : List Int} {i : Item} (h : ItemOk row i) : ∀ x ∈ hears row i, Bd 730 x := fun x hx => by
  have hx := srt_mem hx
  have e : List.zipWith (· + ·) (marks i.m i.ms row) i.ss = ((marks i.m i.ms row).zip i.ss).map fun p => p.1 + p.2 := by
    rw [List.map_zip_eq_zipWith]
    rfl
  rw [e] at hx
  obtain ⟨p, hp, rfl⟩ := List.mem_map.mp hx
  have hm := List.of_mem_zip (a := p.1) (b := p.2) hp
  exact ((marks_bd h.rw h.sm _ hm.1).add ((h.bb _ hm.2).up (by decide))).up (by decide)
def heardL : OptRow → Option Item → List Int
  | some r, some i => hF i.h (hears r i)
  | _, _ => []
def NOk : OptRow → Option Item → Prop
  | none, none => True
  | some r, some i => ItemOk r i
  | _, _ => False
theorem heardL_len {r : OptRow} {i : Option Item} (h : NOk r i) : (heardL r i).length ≤ 64 := by
  match r, i, h with
  | none, none, _ => exact Nat.zero_le _
  | some r, some i, h =>
    have h : ItemOk r i := h
    have l := hears_len h
    have rl := h.rl
    show (hF i.h (hears r i)).length ≤ 64
    have hk := h.hk
    cases e : i.h with
    | mis js =>
      have := missT_len js (hears r i) (hears r i).length
      show (missF js (hears r i)).length ≤ 64
      unfold missF
      omega
    | cli ws =>
      rw [e] at hk
      have := hk.1
      show (srt (hears r i ++ ws)).length ≤ 64
      rw [srt_len, List.length_append]
      omega
abbrev hsD (L : Int) (hs : List Int) : PyData := .tuple (qs L hs)
def heards (reel : List OptRow) (night : List (Option Item)) : List (List Int) := (reel.zip night).map fun p => heardL p.1 p.2
theorem zipD_map {α β : Type} (f : α → PyData) (g : β → PyData) : ∀ (as : List α) (bs : List β), zipD (as.map f) (bs.map g) = (as.zip bs).map fun p => PyData.tuple [f p.1, g p.2]
  | [], _ => by simp [zipD]
  | a :: as, [] => by simp [zipD]
  | a :: as, b :: bs => by
    have ih := zipD_map f g as bs
    show PyData.tuple [f a, g b] :: zipD (as.map f) (bs.map g) = _
    rw [ih]
    rfl
def harm0 : Option Item → Bool
  | some i => match i.h with
    | .mis js => js.isEmpty
    | .cli ws => ws.isEmpty
  | none => false
def fullO (tot : Int) : OptRow → Bool
  | none => false
  | some r => decide (r.sum = tot)
def wholeT (tot : Int) (zs : List (OptRow × Option Item)) (k : Nat) : List Int := (List.range k).filterMap fun (i : Nat) => match zs[i]? with
  | some p => if fullO tot p.1 && harm0 p.2 then some (i : Int) else none
  | none => none
theorem wholeT_snoc {tot : Int} {zs : List (OptRow × Option Item)} {k : Nat} {p : OptRow × Option Item} (h : zs[k]? = some p) : wholeT tot zs (k + 1) = wholeT tot zs k ++ (if fullO tot p.1 && harm0 p.2 then [(k : Int)] else []) := by
  unfold wholeT
  rw [List.range_succ, List.filterMap_append]
  congr 1
  simp only [List.filterMap_cons, List.filterMap_nil, h]
  by_cases c : (fullO tot p.1 && harm0 p.2) = true
  · rw [if_pos c, if_pos c]
  · rw [if_neg c, if_neg c]
theorem wholeT_len (tot : Int) (zs : List (OptRow × Option Item)) (k : Nat) : (wholeT tot zs k).length ≤ k := by
  unfold wholeT
  exact Nat.le_trans (List.length_filterMap_le _ _) (by rw [List.length_range]; exact Nat.le_refl _)
/-- a full row's first marks -/
def Beg (lo most le : Nat) (data : Int) (row : List Int) : Prop := ∃ (n : Nat) (body : List Int), body.sum = data ∧ (∀ x ∈ body, (lo : Int) ≤ x ∧ x ≤ (most : Int)) ∧ row = (List.replicate le (most : Int) ++ body ++ List.replicate le (most : Int)).take n
theorem isI_int {n : Int} : ∀ {l : List Int}, (l.map PyData.int).all (isI n) = true → l = List.replicate l.length n
  | [], _ => rfl
  | a :: l, h => by
    rw [List.map_cons, List.all_cons, Bool.and_eq_true] at h
    have ha : a = n := of_decide_eq_true h.1
    rw [List.length_cons, List.replicate_succ, ← isI_int h.2, ha]
theorem isI_rep {n : Int} (k : Nat) : ((List.replicate k n).map PyData.int).all (isI n) = true := by
  rw [List.all_eq_true]
  intro x hx
  rw [List.map_replicate] at hx
  rw [(List.mem_replicate.mp hx).2]
  exact decide_eq_true rfl
theorem run_rows {lo most : Int} {l : List Int} (h : ∀ x ∈ l, lo ≤ x ∧ x ≤ most) : (l.map PyData.int).all (runB lo most) = true := by
  rw [List.all_eq_true]
  intro x hx
  obtain ⟨y, hy, rfl⟩ := List.mem_map.mp hx
  obtain ⟨a, b⟩ := h y hy
  show (decide (lo ≤ y) && decide (y ≤ most)) = true
  rw [decide_eq_true a, decide_eq_true b]
  rfl
theorem sum_repl (n : Int) : ∀ k : Nat, (List.replicate k n).sum = (k : Int) * n
  | 0 => by simp
  | k + 1 => by
    rw [List.replicate_succ, List.sum_cons, sum_repl n k]
    have : ((k + 1 : Nat) : Int) * n = (k : Int) * n + n := by rw [Int.natCast_add, Int.add_mul]; simp
    omega
theorem full_sum {lo most le : Nat} {data : Int} {row : List Int} (h : fullB (lo : Int) (most : Int) (le : Int) data (rowD row) = true) : row.sum = data + 2 * ((le : Int) * (most : Int)) := by
  rw [show rowD row = .tuple (row.map PyData.int) from rfl, fullB_t, Bool.and_eq_true, Bool.and_eq_true, Bool.and_eq_true, ledB_t, Bool.and_eq_true, Bool.and_eq_true, bodyB_t, Bool.and_eq_true] at h
  obtain ⟨⟨⟨_, _, h3⟩, h4⟩, h5, _, h7⟩ := h
  have h4 := of_decide_eq_true h4
  rw [List.length_map] at h4
  rw [show ((le : Int)).toNat = le from rfl, ← List.map_take] at h3
  rw [show ((le : Int)).toNat = le from rfl, List.length_map, ← List.map_drop] at h5
  have h7 := of_decide_eq_true h7
  rw [show ((le : Int)).toNat = le from rfl, List.length_map, ← List.map_drop, ← List.map_take, sum_ints] at h7
  have e3 := isI_int h3
  have e5 := isI_int h5
  rw [List.length_take, Nat.min_eq_left (by omega)] at e3
  rw [List.length_drop, show row.length - (row.length - le) = le by omega] at e5
  have split : row = row.take le ++ ((row.drop le).take (row.length - le - le) ++ row.drop (row.length - le)) := by
    have a := (List.take_append_drop le row).symm
    have b := (List.take_append_drop (row.length - le - le) (row.drop le)).symm
    rw [List.drop_drop, show le + (row.length - le - le) = row.length - le by omega] at b
    rw [← b]
    exact a
  have hs := congrArg List.sum split
  rw [List.sum_append, List.sum_append, h7, e3, e5, sum_repl] at hs
  omega
theorem full_yes {lo most le : Nat} {data : Int} {body : List Int} (hs : body.sum = data) (hb : ∀ x ∈ body, (lo : Int) ≤ x ∧ x ≤ (most : Int)) (hl : lo ≤ most) : fullB (lo : Int) (most : Int) (le : Int) data (rowD (List.replicate le (most : Int) ++ body ++ List.replicate le (most : Int))) = true := by
  have rb : ∀ x ∈ List.replicate le (most : Int), (lo : Int) ≤ x ∧ x ≤ (most : Int) := fun x hx => by rw [(List.mem_replicate.mp hx).2]; omega
  have all : ∀ x ∈ List.replicate le (most : Int) ++ body ++ List.replicate le (most : Int), (lo : Int) ≤ x ∧ x ≤ (most : Int) := fun x hx => by
    rcases List.mem_append.mp hx with hx | hx
    · rcases List.mem_append.mp hx with hx | hx
      · exact rb x hx
      · exact hb x hx
    · exact rb x hx
  generalize hR : List.replicate le (most : Int) ++ body ++ List.replicate le (most : Int) = R at all
  have lR : R.length = le + body.length + le := by rw [← hR]; simp; omega
  have t1 : R.take le = List.replicate le (most : Int) := by
    rw [← hR, List.append_assoc, List.take_left' (by simp)]
  have t2 : R.drop (R.length - le) = List.replicate le (most : Int) := by
    rw [lR, show le + body.length + le - le = le + body.length by omega, ← hR, List.drop_left' (by simp)]
  have t3 : (R.drop le).take (R.length - le - le) = body := by
    rw [← hR, List.append_assoc, List.drop_left' (by simp), List.take_left' (by simp)]
  rw [show rowD R = .tuple (R.map PyData.int) from rfl, fullB_t, ledB_t, bodyB_t, show ((le : Int)).toNat = le from rfl, List.length_map, ← List.map_take, ← List.map_drop, ← List.map_drop, ← List.map_take, t1, t2, t3, isI_rep, run_rows all, run_rows hb, sum_ints, hs, decide_eq_true (show (le : Int) ≤ (R.length : Nat) by omega), decide_eq_true (show 2 * (le : Int) ≤ (R.length : Nat) by omega), decide_eq_true rfl]
  rfl
theorem beg_in {lo most le : Nat} {data : Int} {row : List Int} (hl : lo ≤ most) (h : Beg lo most le data row) : ∀ x ∈ row, (lo : Int) ≤ x ∧ x ≤ (most : Int) := fun x hx => by
  obtain ⟨n, body, _, hb, rfl⟩ := h
  have rb : ∀ x ∈ List.replicate le (most : Int), (lo : Int) ≤ x ∧ x ≤ (most : Int) := fun x hx => by rw [(List.mem_replicate.mp hx).2]; omega
  rcases List.mem_append.mp (List.mem_of_mem_take hx) with hx | hx
  · rcases List.mem_append.mp hx with hx | hx
    · exact rb x hx
    · exact hb x hx
  · exact rb x hx
theorem sum_posI {l : List Int} (h : ∀ x ∈ l, 1 ≤ x) : (l.length : Int) ≤ l.sum := by
  induction l with
  | nil => simp
  | cons a l ih =>
    have := ih fun x hx => h x (List.mem_cons_of_mem _ hx)
    have := h a List.mem_cons_self
    rw [List.sum_cons, List.length_cons]
    omega
/-- a beginning is whole exactly if it has all the cells -/
theorem beg_whole {lo most le : Nat} {data : Int} {row : List Int} (h1 : 1 ≤ lo) (hl : lo ≤ most) (h : Beg lo most le data row) (e : row.sum = data + 2 * ((le : Int) * (most : Int))) : ∃ body : List Int, body.sum = data ∧ (∀ x ∈ body, (lo : Int) ≤ x ∧ x ≤ (most : Int)) ∧ row = List.replicate le (most : Int) ++ body ++ List.replicate le (most : Int) := by
  obtain ⟨n, body, hs, hb, hr⟩ := h
  refine ⟨body, hs, hb, ?_⟩
  have all : ∀ x ∈ (List.replicate le (most : Int) ++ body ++ List.replicate le (most : Int)).drop n, (1 : Int) ≤ x := fun x hx => by
    rcases List.mem_append.mp (List.mem_of_mem_drop hx) with hx | hx
    · rcases List.mem_append.mp hx with hx | hx
      · rw [(List.mem_replicate.mp hx).2]; omega
      · have := hb x hx; omega
    · rw [(List.mem_replicate.mp hx).2]; omega
  have tot : (List.replicate le (most : Int) ++ body ++ List.replicate le (most : Int)).sum = data + 2 * ((le : Int) * (most : Int)) := by
    rw [List.sum_append, List.sum_append, sum_repl, hs]
    omega
  generalize List.replicate le (most : Int) ++ body ++ List.replicate le (most : Int) = R at *
  have sp := sum_posI all
  have := congrArg List.sum (List.take_append_drop n R)
  rw [List.sum_append, ← hr] at this
  have z : (R.drop n).length = 0 := by omega
  have nz := List.length_eq_zero_iff.mp z
  have e2 := List.take_append_drop n R
  rw [nz, List.append_nil] at e2
  rw [hr, e2]
theorem full_beg {lo most le : Nat} {data : Int} {row : List Int} (h1 : 1 ≤ lo) (hl : lo ≤ most) (h : Beg lo most le data row) : fullB (lo : Int) (most : Int) (le : Int) data (rowD row) = decide (row.sum = data + 2 * ((le : Int) * (most : Int))) := by
  by_cases e : row.sum = data + 2 * ((le : Int) * (most : Int))
  · obtain ⟨body, hs, hb, rfl⟩ := beg_whole h1 hl h e
    rw [full_yes hs hb hl, decide_eq_true e]
  · rw [decide_eq_false e]
    exact Bool.eq_false_iff.mpr fun z => e (full_sum z)
theorem eqv_nilT {ds : List PyData} : PyData.eqv (.tuple ds) (.tuple []) = decide (ds = []) := by
  cases ds with
  | nil => simp [PyData.eqv, PyData.eqvAll]
  | cons a l => simp [PyData.eqv, PyData.eqvAll]
theorem shaped_nilT : SeqAt.shaped (.tuple []) = true := by decide
def rHeardSlot : RR := fun ds po => ∃ L, ∃ (row : List Int) (i : Item), ds = [rowD row, itemD L (some i)] ∧ Sz L ∧ ItemOk row i ∧ po = fun r => r = hsD L (hF i.h (hears row i))
def rHeardReel : RR := fun ds po => ∃ L, ∃ (reel : List OptRow) (night : List (Option Item)), ds = [.tuple (reel.map slotD), .tuple (night.map (itemD L))] ∧ Sz L ∧ reel.length ≤ 10 ∧ (∀ p ∈ reel.zip night, NOk p.1 p.2) ∧ po = fun r => r = .tuple ((heards reel night).map (hsD L))
def rHeardBack : RR := fun ds po => ∃ L, ∃ (reel : List OptRow) (night : List (Option Item)), ds = [.tuple (reel.map slotD), .tuple (night.map (itemD L))] ∧ Sz L ∧ reel.length ≤ 10 ∧ (∀ p ∈ reel.zip night, NOk p.1 p.2) ∧ po = fun r => r = .tuple ((heards reel night).reverse.map fun hs => hsD L (hs.reverse.map fun x => -x))
def rWholeS : RR := fun ds po => ∃ c D S lo most le, ∃ (data many spare L : Int) (reel : List OptRow) (night : List (Option Item)), ds = [fmD (bdQ c D S lo most le) data many spare, .tuple (reel.map slotD), .tuple (night.map (itemD L))] ∧ Sz L ∧ 1 ≤ lo ∧ lo ≤ most ∧ most ≤ 16 ∧ le ≤ 8 ∧ reel.length ≤ 10 ∧ reel.length = night.length ∧ (∀ p ∈ reel.zip night, NOk p.1 p.2) ∧ (∀ r, some r ∈ reel → Beg lo most le data r) ∧ po = fun r => r = .tuple ((wholeT (data + 2 * ((le : Int) * (most : Int))) (reel.zip night) reel.length).map PyData.int)
section
variable {P : Program} {w : World} {K : PySem.W.Frag} {mg : Str → Option Value} {base : Heap}
theorem ok_is_integer (B : Bt mg)  (T : Stands K mg "is_integer" s_is_integer ["thing"]) : Has P w K mg base 1 "is_integer" ["thing"] (SpQ K rIsInt) := by
  refine hasQ T sc_is_integer (fun ds po ⟨d, e, _⟩ => by rw [e]; rfl) 0 rfl fun f cdv A outer s H E g hr => ⟨_, (pss_one (ps_ret (pe_and (pe_callB call_isi (by rfl) B.b_isinstance (by decide +kernel) (pa_cons (pv 0) (pa_cons (pe_bltn (v := .ty "int") (by rfl) B.b_int (by rfl) rfl) pa_nil))) (pe_one (pe_not (pe_callB call_isi (by rfl) B.b_isinstance (by decide +kernel) (pa_cons (pv 0) (pa_cons (pe_bltn (v := .ty "bool") (by rfl) B.b_bool (by rfl) rfl) pa_nil)))))))), ?_⟩
  try dsimp only [cxOf]
  rintro ds po ⟨d, rfl, rfl⟩
  repeat' walk_at "yy"
  all_goals (rename_i h; cases d <;> first | rfl | cases h)
theorem ok_is_run (B : Bt mg) (D_is_integer : Has P w K mg base 1 "is_integer" ["thing"] (SpQ K rIsInt)) (T : Stands K mg "is_run" s_is_run ["bounds", "thing"]) : Has P w K mg base 2 "is_run" ["bounds", "thing"] (SpQ K rIsRun) := by
  refine hasQ T sc_is_run (fun ds po ⟨c, dr, sh, lo, most, le, d, e, _⟩ => by rw [e]; rfl) 0 rfl fun f cdv A outer s H E g hr => ⟨_, (pss_one (ps_ret (pe_and (peD D_is_integer g hr (by first | decide | exact Nat.le_refl _ | omega) (by rfl) (pa_cons (pv 1) pa_nil)) (pe_one (pe_chain op_le op_le (pe_ix ix_tup (pv 0) pe_int (fun _ _ => rfl)) (pv 1) (pe_ix ix_tup (pv 0) pe_int (fun _ _ => rfl))))))), ?_⟩
  try dsimp only [cxOf]
  rintro ds po ⟨c, dr, sh, lo, most, le, d, rfl, rfl⟩
  repeat' walk_at "yy"
  refine c_Q (.cons .nil) _ ⟨d, rfl, rfl⟩ fun z ez => ?_
  subst ez
  rcases int_or d with ⟨i, rfl⟩ | hd
  · repeat' (first | exact absurd ‹intI (.int i) = false› (by simp [intI]) | walk_at "yy")
    · refine congrArg PyData.bool ?_
      show _ = (decide (lo ≤ i) && decide (i ≤ most))
      rw [show decide (lo ≤ i) = true by assumption]
      rfl
    · refine congrArg PyData.bool ?_
      show _ = (decide (lo ≤ i) && decide (i ≤ most))
      rw [show decide (lo ≤ i) = false by assumption]
      rfl
  · repeat' (first | exact absurd (‹intI d = true›.symm.trans hd) (by decide) | walk_at "yy")
    all_goals exact congrArg PyData.bool (run_no hd).symm
theorem ok_is_row (B : Bt mg) (D_is_run : Has P w K mg base 2 "is_run" ["bounds", "thing"] (SpQ K rIsRun)) (T : Stands K mg "is_row" s_is_row ["bounds", "thing"]) : Has P w K mg base 3 "is_row" ["bounds", "thing"] (SpQ K rIsRow) := by
  refine hasQ T sc_is_row (fun ds po ⟨c, dr, sh, lo, most, le, d, e, _⟩ => by rw [e]; rfl) 1 rfl fun f cdv A outer s H E g hr => ⟨_, (pss_one (ps_ret (pe_and (pe_callB call_isi (by rfl) B.b_isinstance (by decide +kernel) (pa_cons (pv 1) (pa_cons (pe_bltn (v := .ty "tuple") (by rfl) B.b_tuple (by rfl) rfl) pa_nil))) (pe_one (pe_callB (cr_all rfl) (by rfl) B.b_all (by decide +kernel) (pa_cons (pe_lc (own := [("part", 2)]) (g := gName 2) (tt := tYes) rfl sc_is_row.nd (pi_tup (pv 1)) (blkOk_by (N := N_is_row) (sc := defScope s_is_row) (by decide +kernel)) (fun _ _ _ _ _ => (pg_name (i := 2) sc_is_row.nd rfl (by first | exact .inl rfl | exact .inr rfl))) (fun _ _ _ _ _ => pts_nil) (fun _ _ _ _ _ => (peD D_is_run g hr (by first | decide | exact Nat.le_refl _ | omega) (by rfl) (pa_cons (pv 0) (pa_cons (pv 2) pa_nil))))) pa_nil)))))), ?_⟩
  try dsimp only [cxOf]
  rintro ds po ⟨c, dr, sh, lo, most, le, d, rfl, hlen, rfl⟩
  rcases tup_or d with ⟨xs, rfl⟩ | hd
  · have hlen := hlen xs rfl
    repeat' (first | exact absurd ‹tupK (.tuple xs) = false› (by simp [tupK]) | walk_at "yy")
    refine ev_lc (own_name (by decide)) ?_
    repeat' walk_at "yy"
    refine ⟨fun k acc M => acc = ((xs.take k).map (runB lo most)).map PyData.bool ∧ M = [], ⟨rfl, rfl⟩, fun k x acc M hx e => ?_, fun acc M e => ?_⟩
    · obtain ⟨rfl, rfl⟩ := e
      have hkl := (List.getElem?_eq_some_iff.mp hx).1
      refine ⟨by rw [List.length_map, List.length_map, List.length_take]; omega, ?_⟩
      repeat' walk_at "yy"
      refine c_Q (.cons (.cons .nil)) _ ⟨c, dr, sh, lo, most, le, x, rfl, rfl⟩ fun z ez => ?_
      subst ez
      repeat' (first | exact absurd ‹true = false› (by decide) | walk_at "yy")
      exact ⟨(bools_snoc hx).symm, rfl⟩
    obtain ⟨rfl, rfl⟩ := e
    rw [List.take_length]
    repeat' walk_at "yy"
    refine c_all ?_
    rw [all_map]
    repeat' walk_at "yy"
    rfl
  · repeat' (first | exact absurd (‹tupK d = true›.symm.trans hd) (by decide) | walk_at "yy")
    all_goals exact congrArg PyData.bool (row_no hd).symm
theorem ok_are_all (B : Bt mg)  (T : Stands K mg "are_all" s_are_all ["run", "runs"]) : Has P w K mg base 1 "are_all" ["run", "runs"] (SpQ K rAreAll) := by
  refine hasQ T sc_are_all (fun ds po ⟨n, xs, e, _⟩ => by rw [e]; rfl) 1 rfl fun f cdv A outer s H E g hr => ⟨_, (pss_one (ps_ret (pe_callB (cr_all rfl) (by rfl) B.b_all (by decide +kernel) (pa_cons (pe_lc (own := [("one", 2)]) (g := gName 2) (tt := tYes) rfl sc_are_all.nd (pi_tup (pv 1)) (blkOk_by (N := N_are_all) (sc := defScope s_are_all) (by decide +kernel)) (fun _ _ _ _ _ => (pg_name (i := 2) sc_are_all.nd rfl (by first | exact .inl rfl | exact .inr rfl))) (fun _ _ _ _ _ => pts_nil) (fun _ _ _ _ _ => (pe_cmpR op_eq (pv 2) (pv 0) (nomark _)))) pa_nil)))), ?_⟩
  try dsimp only [cxOf]
  rintro ds po ⟨n, xs, rfl, hi, hlen, rfl⟩
  repeat' walk_at "yy"
  refine ev_lc (own_name (by decide)) ?_
  repeat' walk_at "yy"
  refine ⟨fun k acc M => acc = ((xs.take k).map (isI n)).map PyData.bool ∧ M = [], ⟨rfl, rfl⟩, fun k x acc M hx e => ?_, fun acc M e => ?_⟩
  · obtain ⟨rfl, rfl⟩ := e
    have hkl := (List.getElem?_eq_some_iff.mp hx).1
    have hxi := List.all_eq_true.mp hi x (List.mem_of_getElem? hx)
    obtain ⟨i, rfl⟩ := (int_or x).resolve_right (by rw [hxi]; decide)
    refine ⟨by rw [List.length_map, List.length_map, List.length_take]; omega, ?_⟩
    repeat' (first | exact absurd ‹true = false› (by decide) | walk_at "yy")
    exact ⟨(bools_snoc hx).symm, rfl⟩
  obtain ⟨rfl, rfl⟩ := e
  rw [List.take_length]
  repeat' walk_at "yy"
  refine c_all ?_
  rw [all_map]
  repeat' walk_at "yy"
  rfl
theorem ok_is_led (B : Bt mg) (D_is_row : Has P w K mg base 3 "is_row" ["bounds", "thing"] (SpQ K rIsRow)) (D_are_all : Has P w K mg base 1 "are_all" ["run", "runs"] (SpQ K rAreAll)) (T : Stands K mg "is_led" s_is_led ["bounds", "thing"]) : Has P w K mg base 4 "is_led" ["bounds", "thing"] (SpQ K rIsLed) := by
  refine hasQ T sc_is_led (fun ds po ⟨c, dr, sh, lo, most, le, d, e, _⟩ => by rw [e]; rfl) 2 rfl fun f cdv A outer s H E g hr => ⟨_, (pss_cons (ps_par (i := 2) (j := 3) (by rfl) sc_is_led.nd rfl rfl (by decide) rfl rfl (pa_cons (pe_ix ix_tup (pv 0) pe_int (fun _ _ => rfl)) (pa_cons (pe_ix ix_tup (pv 0) pe_int (fun _ _ => rfl)) pa_nil)) (by rfl))
      (pss_one (ps_ret (pe_and (peD D_is_row g hr (by first | decide | exact Nat.le_refl _ | omega) (by rfl) (pa_cons (pv 0) (pa_cons (pv 1) pa_nil))) (pe_and (pe_cmpR op_ge (pe_callB call_len_seq (by rfl) B.b_len (by decide +kernel) (pa_cons (pv 1) pa_nil)) (pv 3) (nomark _)) (pe_one (peD D_are_all g hr (by first | decide | exact Nat.le_refl _ | omega) (by rfl) (pa_cons (pv 2) (pa_cons (pe_slice sl_tupA (pv 1) po_none (po_some (pv 3))) pa_nil))))))))), ?_⟩
  try dsimp only [cxOf]
  rintro ds po ⟨c, dr, sh, lo, most, le, d, rfl, le0, hlen, rfl⟩
  repeat' walk_at "yy"
  refine c_Q (.cons (.cons .nil)) _ ⟨c, dr, sh, lo, most, le, d, rfl, hlen, rfl⟩ fun z ez => ?_
  subst ez
  rcases tup_or d with ⟨xs, rfl⟩ | hd
  · have hlen := hlen xs rfl
    obtain ⟨m, rfl⟩ : ∃ m : Nat, le = (m : Int) := ⟨le.toNat, by omega⟩
    by_cases hr : xs.all (runB lo most) = true
    · rw [show rowB lo most (.tuple xs) = true from hr]
      by_cases hl : (m : Int) ≤ (xs.length : Nat)
      · repeat' (first | exact absurd ‹true = false› (by decide) | exact absurd hl (of_decide_eq_false ‹decide ((m : Int) ≤ (xs.length : Nat)) = false›) | refine c_len .tup ?_ | refine sl_T ?_ | walk_at "yy")
        rw [cut_toG]
        refine c_Q (.cons (.cons .nil)) _ ⟨most, xs.take m, rfl, all_sub (run_all hr) fun x hx => List.mem_of_mem_take hx, by rw [List.length_take]; omega, rfl⟩ fun z ez => ?_
        subst ez
        repeat' walk_at "yy"
        refine congrArg PyData.bool ?_
        rw [ledB_t, hr, decide_eq_true hl]
        rfl
      · repeat' (first | exact absurd ‹true = false› (by decide) | exact absurd (of_decide_eq_true ‹decide ((m : Int) ≤ (xs.length : Nat)) = true›) hl | refine c_len .tup ?_ | refine sl_T ?_ | walk_at "yy")
        refine congrArg PyData.bool ?_
        rw [ledB_t, hr, decide_eq_false hl]
        rfl
    · have hr : xs.all (runB lo most) = false := Bool.eq_false_iff.mpr hr
      rw [show rowB lo most (.tuple xs) = false from hr]
      repeat' (first | exact absurd ‹false = true› (by decide) | walk_at "yy")
      refine congrArg PyData.bool ?_
      rw [ledB_t, hr]
      rfl
  · rw [row_no hd]
    repeat' (first | exact absurd ‹false = true› (by decide) | walk_at "yy")
    all_goals exact congrArg PyData.bool (led_no hd).symm
theorem ok_is_body (B : Bt mg) (D_is_row : Has P w K mg base 3 "is_row" ["bounds", "thing"] (SpQ K rIsRow)) (T : Stands K mg "is_body" s_is_body ["form", "thing"]) : Has P w K mg base 4 "is_body" ["form", "thing"] (SpQ K rIsBody) := by
  refine hasQ T sc_is_body (fun ds po ⟨c, dr, sh, lo, most, le, data, m, s, d, e, _⟩ => by rw [e]; rfl) 0 rfl fun f cdv A outer s H E g hr => ⟨_, (pss_one (ps_ret (pe_and (peD D_is_row g hr (by first | decide | exact Nat.le_refl _ | omega) (by rfl) (pa_cons (pe_ix ix_tup (pv 0) pe_int (fun _ _ => rfl)) (pa_cons (pv 1) pa_nil))) (pe_one (pe_cmpR op_eq (pe_callB (cr_sumA rfl) (by rfl) B.b_sum (by decide +kernel) (pa_cons (pv 1) pa_nil)) (pe_ix ix_tup (pv 0) pe_int (fun _ _ => rfl)) (nomark _)))))), ?_⟩
  try dsimp only [cxOf]
  rintro ds po ⟨c, dr, sh, lo, most, le, data, m, s2, d, rfl, hm, hl, hlen, rfl⟩
  repeat' walk_at "yy"
  refine c_Q (.cons (.cons .nil)) _ ⟨c, dr, sh, lo, most, le, d, rfl, hlen, rfl⟩ fun z ez => ?_
  subst ez
  rcases tup_or d with ⟨xs, rfl⟩ | hd
  · have hlen := hlen xs rfl
    by_cases hr : xs.all (runB lo most) = true
    · rw [show rowB lo most (.tuple xs) = true from hr]
      obtain ⟨ns, rfl⟩ := all_ints (run_all hr)
      repeat' (first | exact absurd ‹true = false› (by decide) | refine c_sumA (.tup _) ?_ | walk_at "yy")
      refine congrArg PyData.bool ?_
      rw [bodyB_t, hr, sum_ints]
      rfl
    · have hr : xs.all (runB lo most) = false := Bool.eq_false_iff.mpr hr
      rw [show rowB lo most (.tuple xs) = false from hr]
      repeat' (first | exact absurd ‹false = true› (by decide) | walk_at "yy")
      refine congrArg PyData.bool ?_
      rw [bodyB_t, hr]
      rfl
  · rw [row_no hd]
    repeat' (first | exact absurd ‹false = true› (by decide) | walk_at "yy")
    all_goals exact congrArg PyData.bool (body_no hd).symm
theorem ok_is_full (B : Bt mg) (D_are_all : Has P w K mg base 1 "are_all" ["run", "runs"] (SpQ K rAreAll)) (D_is_body : Has P w K mg base 4 "is_body" ["form", "thing"] (SpQ K rIsBody)) (D_is_led : Has P w K mg base 4 "is_led" ["bounds", "thing"] (SpQ K rIsLed)) (T : Stands K mg "is_full" s_is_full ["form", "thing"]) : Has P w K mg base 5 "is_full" ["form", "thing"] (SpQ K rIsFull) := by
  refine hasQ T sc_is_full (fun ds po ⟨c, dr, sh, lo, most, le, data, m, s, d, e, _⟩ => by rw [e]; rfl) 4 rfl fun f cdv A outer s H E g hr => ⟨_, (pss_cons (ps_set (i := 2) sc_is_full.nd rfl (by first | exact .inl rfl | exact .inr rfl) (pe_ix ix_tup (pv 0) pe_int (fun _ _ => rfl)))
      (pss_cons (ps_par (i := 3) (j := 4) (by rfl) sc_is_full.nd rfl rfl (by decide) rfl rfl (pa_cons (pe_ix ix_tup (pv 2) pe_int (fun _ _ => rfl)) (pa_cons (pe_ix ix_tup (pv 2) pe_int (fun _ _ => rfl)) pa_nil)) (by rfl))
      (pss_cons (ps_if (PW.pt (pw_or (pt_not (pt_val (peD D_is_led g hr (by first | decide | exact Nat.le_refl _ | omega) (by rfl) (pa_cons (pv 2) (pa_cons (pv 1) pa_nil))))) (pw_or1 (pt_cmpR op_lt (pe_callB call_len_seq (by rfl) B.b_len (by decide +kernel) (pa_cons (pv 1) pa_nil)) (pe_op op_mulA pe_int (pv 4)) (nomark _))))) (pss_one (ps_ret pe_bl)) pss_nil)
      (pss_cons (ps_set (i := 5) sc_is_full.nd rfl (by first | exact .inl rfl | exact .inr rfl) (pe_op op_sub (pe_callB call_len_seq (by rfl) B.b_len (by decide +kernel) (pa_cons (pv 1) pa_nil)) (pv 4)))
      (pss_one (ps_ret (pe_and (peD D_are_all g hr (by first | decide | exact Nat.le_refl _ | omega) (by rfl) (pa_cons (pv 3) (pa_cons (pe_slice sl_tupA (pv 1) (po_some (pv 5)) po_none) pa_nil))) (pe_one (peD D_is_body g hr (by first | decide | exact Nat.le_refl _ | omega) (by rfl) (pa_cons (pv 0) (pa_cons (pe_slice sl_tupA (pv 1) (po_some (pv 4)) (po_some (pv 5))) pa_nil))))))))))), ?_⟩
  try dsimp only [cxOf]
  rintro ds po ⟨c, dr, sh, lo, most, le, data, m, s2, d, rfl, hm, hl, le0, le8, hlen, rfl⟩
  obtain ⟨n, rfl⟩ : ∃ n : Nat, le = (n : Int) := ⟨le.toNat, by omega⟩
  repeat' walk_at "yy"
  refine c_Q (.cons (.cons .nil)) _ ⟨c, dr, sh, lo, most, (n : Int), d, rfl, le0, hlen, rfl⟩ fun z ez => ?_
  subst ez
  rcases tup_or d with ⟨xs, rfl⟩ | hd
  · have hlen := hlen xs rfl
    cases hld : ledB lo most (n : Int) (.tuple xs) with
    | false =>
      repeat' (first | exact absurd ‹(!false) = false› (by decide) | walk_at "yy")
      refine congrArg PyData.bool ?_
      rw [fullB_t, hld]
      rfl
    | true =>
      have hr : xs.all (runB lo most) = true := by
        rw [ledB_t, Bool.and_eq_true] at hld
        exact hld.1
      by_cases h2 : 2 * (n : Int) ≤ (xs.length : Nat)
      · repeat' (first | exact absurd ‹(!true) = true› (by decide) | exact absurd (of_decide_eq_true ‹decide (((xs.length : Nat) : Int) < 2 * (n : Int)) = true›) (by omega) | refine c_len .tup ?_ | refine sl_T ?_ | walk_at "yy")
        rw [show ((xs.length : Nat) : Int) - (n : Int) = ((xs.length - n : Nat) : Int) by omega, cut_fromG]
        refine c_Q (.cons (.cons .nil)) _ ⟨most, xs.drop (xs.length - n), rfl, all_sub (run_all hr) fun x hx => List.mem_of_mem_drop hx, by rw [List.length_drop]; omega, rfl⟩ fun z ez => ?_
        subst ez
        cases ha : (xs.drop (xs.length - n)).all (isI most) with
        | false =>
          repeat' (first | exact absurd ‹false = true› (by decide) | walk_at "yy")
          refine congrArg PyData.bool ?_
          rw [fullB_t, hld, decide_eq_true h2, show ((n : Int)).toNat = n from rfl, ha]
          rfl
        | true =>
          repeat' (first | exact absurd ‹true = false› (by decide) | refine sl_T ?_ | walk_at "yy")
          rw [cut_both xs (by omega) (by omega)]
          refine c_Q (.cons (.cons .nil)) _ ⟨c, dr, sh, lo, most, (n : Int), data, m, s2, _, rfl, hm, hl, fun ys e => by rw [← PyData.tuple.inj e, List.length_take, List.length_drop]; omega, rfl⟩ fun z ez => ?_
          subst ez
          repeat' walk_at "yy"
          refine congrArg PyData.bool ?_
          rw [fullB_t, hld, decide_eq_true h2, show ((n : Int)).toNat = n from rfl, ha]
          rfl
      · repeat' (first | exact absurd ‹(!true) = true› (by decide) | exact absurd (of_decide_eq_false ‹decide (((xs.length : Nat) : Int) < 2 * (n : Int)) = false›) (by omega) | refine c_len .tup ?_ | refine sl_T ?_ | walk_at "yy")
        refine congrArg PyData.bool ?_
        rw [fullB_t, hld, decide_eq_false h2]
        rfl
  · rw [led_no hd]
    repeat' (first | exact absurd ‹(!false) = false› (by decide) | walk_at "yy")
    all_goals exact congrArg PyData.bool (full_no hd).symm
theorem ok_heard_slot (B : Bt mg) (D_harmed : Has P w K mg base 4 "harmed" ["hearing", "harm"] (SpQ K rHarmedS)) (D_hearing_of : Has P w K mg base 12 "hearing_of" ["telling", "row", "shifts"] (SpQ K rHearS)) (T : Stands K mg "heard_slot" s_heard_slot ["slot", "one"]) : Has P w K mg base 13 "heard_slot" ["slot", "one"] (SpQ K rHeardSlot) := by
  refine hasQ T sc_heard_slot (fun ds po ⟨L, row, i, e, _⟩ => by rw [e]; rfl) 3 rfl fun f cdv A outer s H E g hr => ⟨_, (pss_cons (ps_asg (pv 1) (pg_tup rfl (pgs_cons (pg_name (i := 2) sc_heard_slot.nd rfl (by first | exact .inl rfl | exact .inr rfl)) (pgs_cons (pg_name (i := 3) sc_heard_slot.nd rfl (by first | exact .inl rfl | exact .inr rfl)) (pgs_cons (pg_name (i := 4) sc_heard_slot.nd rfl (by first | exact .inl rfl | exact .inr rfl)) pgs_nil)))))
      (pss_one (ps_ret (peD D_harmed g hr (by first | decide | exact Nat.le_refl _ | omega) (by rfl) (pa_cons (peD D_hearing_of g hr (by first | decide | exact Nat.le_refl _ | omega) (by rfl) (pa_cons (pv 2) (pa_cons (pv 0) (pa_cons (pv 3) pa_nil)))) (pa_cons (pv 4) pa_nil)))))), ?_⟩
  try dsimp only [cxOf]
  rintro ds po ⟨L, row, i, rfl, z, hi, rfl⟩
  have bd := hears_bd hi
  unfold itemD
  dsimp only
  repeat' walk_at "yy"
  refine c_Q (.cons (.cons (.cons .nil))) _ ⟨L, i.m, i.ms, row, i.ss, rfl, z, hi.sm, hi.rw, by have := hi.rl; omega, hi.sl, fun s hs => (hi.bb s hs).up (by decide), rfl⟩ fun r er => ?_
  subst er
  repeat' walk_at "yy"
  refine c_Q (.cons (.cons .nil)) _ ⟨L, hears row i, i.h, rfl, z, hi.hk, bd, by have := hears_len hi; have := hi.rl; omega, srt_asc _, rfl⟩ fun r er => ?_
  subst er
  exact ⟨_, rfl, rfl⟩
theorem ok_heard_reel (B : Bt mg) (D_heard_slot : Has P w K mg base 13 "heard_slot" ["slot", "one"] (SpQ K rHeardSlot)) (T : Stands K mg "heard_reel" s_heard_reel ["reel", "night"]) : Has P w K mg base 14 "heard_reel" ["reel", "night"] (SpQ K rHeardReel) := by
  refine hasQ T sc_heard_reel (fun ds po ⟨L, reel, night, e, _⟩ => by rw [e]; rfl) 2 rfl fun f cdv A outer s H E g hr => ⟨_, (pss_one (ps_ret (pe_callTy call_tuple_of (by rfl) B.b_tuple (by decide +kernel) (pa_cons (pe_lc (own := [("slot", 2), ("one", 3)]) (g := gTup _ 2 (gCons (gName 2) (gCons (gName 3) (gNil)))) (tt := tYes) rfl sc_heard_reel.nd (RZ.pi_zipA (by rfl) B.b_zip (pa_cons (pv 0) (pa_cons (pv 1) pa_nil))) (blkOk_by (N := N_heard_reel) (sc := defScope s_heard_reel) (by decide +kernel)) (fun _ _ _ _ _ => (pg_tup rfl (pgs_cons (pg_name (i := 2) sc_heard_reel.nd rfl (by first | exact .inl rfl | exact .inr rfl)) (pgs_cons (pg_name (i := 3) sc_heard_reel.nd rfl (by first | exact .inl rfl | exact .inr rfl)) pgs_nil)))) (fun _ _ _ _ _ => pts_nil) (fun _ _ _ _ _ => (pe_ifExp (pt_cmpR op_isN (pv 2) pe_non (nomark _)) (pe_tup pa_nil) (peD D_heard_slot g hr (by first | decide | exact Nat.le_refl _ | omega) (by rfl) (pa_cons (pv 2) (pa_cons (pv 3) pa_nil)))))) pa_nil)))), ?_⟩
  try dsimp only [cxOf]
  rintro ds po ⟨L, reel, night, rfl, z, hl, hn, rfl⟩
  repeat' walk_at "yy"
  refine ev_lc (own_pair (by decide) (by decide)) ?_
  repeat' walk_at "yy"
  refine ⟨_, _, .inr rfl, ?_⟩
  rw [zipD_map]
  have zl : (reel.zip night).length ≤ 10 := by rw [List.length_zip]; omega
  refine ⟨fun k acc M => acc = ((reel.zip night).take k).map (fun p => hsD L (heardL p.1 p.2)) ∧ M = [], ⟨rfl, rfl⟩, fun k d acc M hd e => ?_, fun acc M e => ?_⟩
  · obtain ⟨rfl, rfl⟩ := e
    obtain ⟨p, hk, rfl⟩ := map_at hd
    have hp := hn p (List.mem_of_getElem? hk)
    refine ⟨by rw [List.length_map, List.length_take]; omega, ?_⟩
    obtain ⟨r, i⟩ := p
    match r, i, hp with
    | none, none, _ =>
      dsimp only [slotD, itemD]
      repeat' (first | refine o_isN ?_ | exact absurd ‹true = false› (by decide) | walk_at "yy")
      exact ⟨(map_snoc hk).symm, rfl⟩
    | some r, some i, hp =>
      dsimp only [slotD, itemD]
      repeat' (first | refine o_isN2 ?_ | exact absurd ‹true = false› (by decide) | exact absurd ‹isNone (rowD r) = true› Bool.false_ne_true | walk_at "yy")
      refine c_Q (.cons (.cons .nil)) _ ⟨L, r, i, rfl, z, hp, rfl⟩ fun y ey => ?_
      subst ey
      repeat' (first | exact absurd ‹true = false› (by decide) | walk_at "yy")
      exact ⟨(map_snoc hk).symm, rfl⟩
  obtain ⟨rfl, rfl⟩ := e
  rw [List.length_map, List.take_length]
  repeat' walk_at "yy"
  refine c_tuple (.lst _) ?_
  repeat' walk_at "yy"
  unfold heards
  rw [List.map_map]
  rfl
theorem ok_heard_reel_back (B : Bt mg) (D_heard_back : Has P w K mg base 2 "heard_back" ["hearing"] (SpQ K rBackS)) (D_heard_reel : Has P w K mg base 14 "heard_reel" ["reel", "night"] (SpQ K rHeardReel)) (T : Stands K mg "heard_reel_back" s_heard_reel_back ["reel", "night"]) : Has P w K mg base 15 "heard_reel_back" ["reel", "night"] (SpQ K rHeardBack) := by
  refine hasQ T sc_heard_reel_back (fun ds po ⟨L, reel, night, e, _⟩ => by rw [e]; rfl) 1 rfl fun f cdv A outer s H E g hr => ⟨_, (pss_one (ps_ret (pe_callTy call_tuple_of (by rfl) B.b_tuple (by decide +kernel) (pa_cons (pe_lc (own := [("hearing", 2)]) (g := gName 2) (tt := tYes) rfl sc_heard_reel_back.nd (pi_tup (pe_revT (peD D_heard_reel g hr (by first | decide | exact Nat.le_refl _ | omega) (by rfl) (pa_cons (pv 0) (pa_cons (pv 1) pa_nil))))) (blkOk_by (N := N_heard_reel_back) (sc := defScope s_heard_reel_back) (by decide +kernel)) (fun _ _ _ _ _ => (pg_name (i := 2) sc_heard_reel_back.nd rfl (by first | exact .inl rfl | exact .inr rfl))) (fun _ _ _ _ _ => pts_nil) (fun _ _ _ _ _ => (peD D_heard_back g hr (by first | decide | exact Nat.le_refl _ | omega) (by rfl) (pa_cons (pv 2) pa_nil)))) pa_nil)))), ?_⟩
  try dsimp only [cxOf]
  rintro ds po ⟨L, reel, night, rfl, z, hl, hn, rfl⟩
  have hsl : ∀ hs ∈ heards reel night, hs.length ≤ 64 := fun hs h => by
    unfold heards at h
    obtain ⟨p, hp, rfl⟩ := List.mem_map.mp h
    exact heardL_len (hn p hp)
  have hc : (heards reel night).length ≤ 10 := by
    unfold heards
    rw [List.length_map, List.length_zip]
    omega
  repeat' walk_at "yy"
  refine ev_lc (own_name (by decide)) ?_
  repeat' walk_at "yy"
  refine c_Q (.cons (.cons .nil)) _ ⟨L, reel, night, rfl, z, hl, hn, rfl⟩ fun y ey => ?_
  subst ey
  repeat' walk_at "yy"
  rw [← List.map_reverse]
  refine ⟨fun k acc M => acc = ((heards reel night).reverse.take k).map (fun hs => hsD L (hs.reverse.map fun x => -x)) ∧ M = [], ⟨rfl, rfl⟩, fun k d acc M hd e => ?_, fun acc M e => ?_⟩
  · obtain ⟨rfl, rfl⟩ := e
    obtain ⟨hs, hk, rfl⟩ := map_at hd
    have hm := hsl hs (List.mem_reverse.mp (List.mem_of_getElem? hk))
    refine ⟨by rw [List.length_map, List.length_take, List.length_reverse]; omega, ?_⟩
    repeat' (first | exact absurd ‹true = false› (by decide) | walk_at "yy")
    refine c_Q (.cons .nil) _ ⟨L, hs, rfl, z, by omega, rfl⟩ fun y ey => ?_
    subst ey
    repeat' (first | exact absurd ‹true = false› (by decide) | walk_at "yy")
    exact ⟨(map_snoc hk).symm, rfl⟩
  obtain ⟨rfl, rfl⟩ := e
  rw [List.length_map, List.take_length]
  repeat' walk_at "yy"
  refine c_tuple (.lst _) ?_
  repeat' walk_at "yy"
  rfl
theorem ok_whole_slots (B : Bt mg) (D_is_full : Has P w K mg base 5 "is_full" ["form", "thing"] (SpQ K rIsFull)) (T : Stands K mg "whole_slots" s_whole_slots ["form", "reel", "night"]) : Has P w K mg base 6 "whole_slots" ["form", "reel", "night"] (SpQ K rWholeS) := by
  refine hasQ T sc_whole_slots (fun ds po ⟨c, D, S, lo, most, le, data, many, spare, L, reel, night, e, _⟩ => by rw [e]; rfl) 2 rfl fun f cdv A outer s H E g hr => ⟨_, (pss_one (ps_ret (pe_callTy call_tuple_of (by rfl) B.b_tuple (by decide +kernel) (pa_cons (pe_lc (own := [("index", 3), ("slot", 4)]) (g := gTup _ 2 (gCons (gName 3) (gCons (gName 4) (gNil)))) (tt := _) rfl sc_whole_slots.nd (pi_enumT (by rfl) B.b_enumerate (pa_cons (pv 1) pa_nil)) (blkOk_by (N := N_whole_slots) (sc := defScope s_whole_slots) (by decide +kernel)) (fun _ _ _ _ _ => (pg_tup rfl (pgs_cons (pg_name (i := 3) sc_whole_slots.nd rfl (by first | exact .inl rfl | exact .inr rfl)) (pgs_cons (pg_name (i := 4) sc_whole_slots.nd rfl (by first | exact .inl rfl | exact .inr rfl)) pgs_nil)))) (fun _ _ _ _ _ => pts_one (PW.pt (pw_and (pt_val (peD D_is_full g hr (by first | decide | exact Nat.le_refl _ | omega) (by rfl) (pa_cons (pv 0) (pa_cons (pv 4) pa_nil)))) (pw_and1 (pt_cmpR (eqK (K := K) rfl hr.units) (pe_ix (ixtK (K := K) rfl) (pe_ix (ixtK (K := K) rfl) (pe_ix (ixtK (K := K) rfl) (pv 2) (pv 3) (fun _ _ => rfl)) pe_int (fun _ _ => rfl)) pe_int (fun _ _ => rfl)) (pe_tup pa_nil) (nomark _)))))) (fun _ _ _ _ _ => (pv 3))) pa_nil)))), ?_⟩
  try dsimp only [cxOf]
  rintro ds po ⟨c, D, S, lo, most, le, data, many, spare, L, reel, night, rfl, z, h1, hlm, m16, e8, hl, hln, hn, hbeg, rfl⟩
  repeat' walk_at "yy"
  refine ev_lc (own_pair (by decide) (by decide)) ?_
  repeat' walk_at "yy"
  have zl : (reel.zip night).length = reel.length := by rw [List.length_zip]; omega
  refine ⟨fun k acc M => acc = (wholeT (data + 2 * ((le : Int) * (most : Int))) (reel.zip night) k).map PyData.int ∧ M = [], ⟨rfl, rfl⟩, fun k d acc M hd e => ?_, fun acc M e => ?_⟩
  · obtain ⟨rfl, rfl⟩ := e
    obtain ⟨x, hx, rfl⟩ := enumD_at hd
    obtain ⟨r, hr, rfl⟩ := map_at hx
    have hkl := (List.getElem?_eq_some_iff.mp hr).1
    have hkn : k < night.length := by omega
    have hi := List.getElem?_eq_getElem hkn
    generalize night[k] = i at hi
    have hz : (reel.zip night)[k]? = some (r, i) := by rw [List.getElem?_zip_eq_some]; exact ⟨hr, hi⟩
    have hok := hn _ (List.mem_of_getElem? hz)
    have wl := wholeT_len (data + 2 * ((le : Int) * (most : Int))) (reel.zip night) k
    refine ⟨by rw [List.length_map]; omega, ?_⟩
    have sn := wholeT_snoc (tot := data + 2 * ((le : Int) * (most : Int))) hz
    repeat' walk_at "yy"
    match r, i, hok with
    | none, none, _ =>
      refine c_Q (.cons (.cons .nil)) _ ⟨.int c, frq D, frq S, (lo : Int), (most : Int), (le : Int), data, many, spare, .none, rfl, by omega, by omega, by omega, by omega, (fun xs e => nomatch e), rfl⟩ fun y ey => ?_
      subst ey
      repeat' (first | exact absurd ‹false = true› (by decide) | walk_at "yy")
      refine ⟨?_, rfl⟩
      rw [sn]
      show _ = List.map PyData.int (_ ++ [])
      rw [List.append_nil]
    | some r, some i, hok =>
      have hok : ItemOk r i := hok
      have hb := hbeg r (List.mem_of_getElem? hr)
      refine c_Q (.cons (.cons .nil)) _ ⟨.int c, frq D, frq S, (lo : Int), (most : Int), (le : Int), data, many, spare, rowD r, rfl, by omega, by omega, by omega, by omega, (fun xs e => by rw [← PyData.tuple.inj e, List.length_map]; have := hok.rl; omega), rfl⟩ fun y ey => ?_
      subst ey
      rw [full_beg h1 hlm hb]
      by_cases hf : r.sum = data + 2 * ((le : Int) * (most : Int))
      case neg =>
        rw [decide_eq_false hf]
        repeat' (first | exact absurd ‹false = true› (by decide) | walk_at "yy")
        refine ⟨?_, rfl⟩
        rw [sn]
        show _ = List.map PyData.int (_ ++ (if (decide (r.sum = data + 2 * ((le : Int) * (most : Int))) && harm0 (some i)) = true then [(k : Int)] else []))
        rw [decide_eq_false hf]
        show _ = List.map PyData.int (_ ++ [])
        rw [List.append_nil]
      rw [decide_eq_true hf]
      have fT : fullO (data + 2 * ((le : Int) * (most : Int))) (some r) = true := decide_eq_true hf
      have hk := hok.hk
      cases hc : i.h with
      | mis js =>
        rw [hc] at hk
        have aN : atI (night.map (itemD L)) (((0 + k : Nat)) : Int) = some (.tuple [telD L i.m i.ms, .tuple (qs L i.ss), .tuple [.str (Str.ofString "missed"), .tuple (js.map .int)]]) := by
          rw [Nat.zero_add]
          refine atI_nat ?_
          rw [List.getElem?_map, hi, show Option.map (itemD L) (some (some i)) = some (.tuple [telD L i.m i.ms, .tuple (qs L i.ss), hD L i.h]) from rfl, hc]
          rfl
        have h0 : harm0 (some i) = js.isEmpty := by
          show (match i.h with | .mis js => js.isEmpty | .cli ws => ws.isEmpty) = _
          rw [hc]
        have wj : Wt (300 * 1923 + 3) 1 (.tuple (js.map .int)) := wt_ints hk.1 fun x hx => by
          have := hk.2 x hx
          exact Nat.lt_of_lt_of_le (show x.natAbs < 2 ^ 10 by omega) (Nat.pow_le_pow_right (by decide) (by decide))
        repeat' (first | exact absurd ‹true = false› (by decide) | refine o_ixT aN ?_ | walk_at "yy")
        refine o_eqD (wj.shaped (by decide)) shaped_nilT ?_
        rw [eqv_nilT]
        cases js with
        | nil =>
          repeat' (first | exact absurd ‹decide (List.map PyData.int [] = []) = false› (by simp) | walk_at "yy")
          refine ⟨?_, rfl⟩
          rw [sn, fT, h0, Nat.zero_add]
          show _ = List.map PyData.int (_ ++ [(k : Int)])
          rw [List.map_append]
          rfl
        | cons j js =>
          repeat' (first | exact absurd ‹decide (List.map PyData.int (j :: js) = []) = true› (by simp) | walk_at "yy")
          refine ⟨?_, rfl⟩
          rw [sn, fT, h0]
          show _ = List.map PyData.int (_ ++ [])
          rw [List.append_nil]
      | cli ws =>
        rw [hc] at hk
        have aN : atI (night.map (itemD L)) (((0 + k : Nat)) : Int) = some (.tuple [telD L i.m i.ms, .tuple (qs L i.ss), .tuple [.str (Str.ofString "clicks"), .tuple (qs L ws)]]) := by
          rw [Nat.zero_add]
          refine atI_nat ?_
          rw [List.getElem?_map, hi, show Option.map (itemD L) (some (some i)) = some (.tuple [telD L i.m i.ms, .tuple (qs L i.ss), hD L i.h]) from rfl, hc]
          rfl
        have h0 : harm0 (some i) = ws.isEmpty := by
          show (match i.h with | .mis js => js.isEmpty | .cli ws => ws.isEmpty) = _
          rw [hc]
        have wj := wt_qs z (fun m hm => (hk.2.2 m hm).up (by decide)) hk.1
        repeat' (first | exact absurd ‹true = false› (by decide) | refine o_ixT aN ?_ | walk_at "yy")
        refine o_eqD (wj.shaped (by decide)) shaped_nilT ?_
        rw [eqv_nilT]
        cases ws with
        | nil =>
          repeat' (first | exact absurd ‹decide (qs L [] = []) = false› (by simp [qs]) | walk_at "yy")
          refine ⟨?_, rfl⟩
          rw [sn, fT, h0, Nat.zero_add]
          show _ = List.map PyData.int (_ ++ [(k : Int)])
          rw [List.map_append]
          rfl
        | cons j js =>
          repeat' (first | exact absurd ‹decide (qs L (j :: js) = []) = true› (by simp [qs]) | walk_at "yy")
          refine ⟨?_, rfl⟩
          rw [sn, fT, h0]
          show _ = List.map PyData.int (_ ++ [])
          rw [List.append_nil]
  obtain ⟨rfl, rfl⟩ := e
  repeat' walk_at "yy"
  refine c_tuple (.lst _) ?_
  repeat' walk_at "yy"
  show PyData.tuple _ = PyData.tuple _
  rw [enumD_len, List.length_map]
end
end K34

set_option Elab.async false
set_option linter.all false
set_option maxRecDepth 100000
set_option maxHeartbeats 1000000
set_option exponentiation.threshold 20000
namespace K34
open PySem PySem.Spec PyProof.Rows L2 Yw
local macro_rules | `(tactic| walk_at "ye") => `(tactic| first
  | ((with_reducible show Ev _ (tVar _) _ _ _); first | refine ev_dat rfl ?_ | refine ev_ref rfl ?_ | refine ev_var rfl (fun z => nomatch z) ?_)
  | ((with_reducible show Ev _ (tC _) _ _ _); first | with_reducible refine ev_int ?_ | with_reducible refine ev_bl ?_ | with_reducible refine ev_non ?_ | with_reducible refine ev_str ?_ | with_reducible refine ev_ty ?_)
  | with_reducible refine ev_op ?_
  | with_reducible refine ev_un ?_
  | with_reducible refine ev_go ?_
  | with_reducible refine ev_cb ?_
  | with_reducible refine ev_tupD ?_
  | with_reducible refine ev_lstD ?_
  | with_reducible refine ev_chain ?_
  | with_reducible refine ev_if ?_
  | with_reducible refine ev_andV ?_
  | with_reducible refine ev_orV ?_
  | with_reducible refine ev_notV ?_
  | with_reducible refine ev_sl ?_
  | with_reducible refine ev_bm ?_)
local macro_rules | `(tactic| walk_at "ya") => `(tactic| first
  | with_reducible refine ea_cons ?_
  | with_reducible refine ea_nil ?_
  | with_reducible refine eo_none ?_
  | with_reducible refine eo_some ?_
  | with_reducible refine et_test ?_
  | with_reducible refine et_B ?_
  | with_reducible refine et_and ?_
  | with_reducible refine et_or ?_
  | with_reducible refine et_not ?_
  | with_reducible refine et_yes ?_
  | with_reducible refine tg_name ?_
  | with_reducible refine tgs_nil ?_
  | with_reducible refine tgs_cons ?_
  | ((with_reducible show Tg _ (gTup _ _ _) _ _ _ _); refine tg_tup rfl ?_)
  | with_reducible refine tg_sub ?_)
local macro_rules | `(tactic| walk_at "ys") => `(tactic| first
  | with_reducible refine sj_seq ?_
  | with_reducible refine sj_next ?_
  | with_reducible refine sj_newD ?_
  | with_reducible refine sj_set ?_
  | with_reducible refine sj_par ?_
  | with_reducible refine sj_ret ?_
  | with_reducible refine sj_drop ?_
  | with_reducible refine sj_if ?_
  | with_reducible refine sj_asg ?_
  | with_reducible refine sj_augS ?_
  | with_reducible refine iw_seq ?_
  | with_reducible refine iw_zip ?_
  | with_reducible refine iw_list ?_
  | with_reducible refine iw_tup ?_
  | with_reducible refine iw_r1 ?_
  | with_reducible refine iw_r2 ?_
  | with_reducible refine iw_enumT ?_)
local macro_rules | `(tactic| walk_at "yo") => `(tactic| first
  | with_reducible refine o_int ?_
  | with_reducible refine o_bool ?_
  | with_reducible refine o_mul (by first | exact mulR ⟨by decide, by decide⟩ | exact mulL ⟨by decide, by decide⟩) ?_
  | with_reducible refine o_mul ?_ ?_
  | with_reducible refine o_mod (by decide) ?_
  | with_reducible refine o_mod ?_ ?_
  | with_reducible refine o_div (by decide) (by decide +kernel) ?_
  | with_reducible refine o_cat ?_ ?_
  | with_reducible refine o_catT ?_ ?_
  | ((with_reducible show Op2 _ (rIxL _) (Ent.ref _) _ _ _); refine o_ixM (List.Mem.head _) rfl ?_)
  | with_reducible refine o_eqI ?_
  | with_reducible refine o_neI ?_
  | with_reducible refine o_eqS ?_
  | with_reducible refine o_neS ?_
  | with_reducible refine o_neg ?_
  | ((with_reducible show Op2 _ (rIxT _) _ _ _ _); refine o_ixT rfl ?_)
  | ((with_reducible show Op2 _ (rIxL _) (Ent.dat _) _ _ _); refine o_ixL rfl ?_)
  | ((with_reducible show Op2 _ (rI CPow _) _ _ _ _); refine o_pow ⟨by decide, by decide, by decide⟩ rfl ?_)
  | with_reducible refine c_abs ?_
  | with_reducible refine c_int ?_
  | with_reducible refine c_min2 ?_
  | with_reducible refine c_max2 ?_
  | with_reducible refine c_gcd ?_
  | with_reducible refine sl_L ?_
  | with_reducible refine c_len (.lst _) ?_
  | with_reducible refine c_len (.tup _) ?_)
local macro_rules | `(tactic| walk_at "yx") => `(tactic| first
  | with_reducible refine ⟨_, rfl, ?_⟩
  | with_reducible refine ⟨_, _, rfl, ?_⟩
  | with_reducible refine ⟨fun _ => ?_, fun _ => ?_⟩
  | ((with_reducible show ∃ _ _ _ _ _ _, _ = _ ∧ _ = _ ∧ _ = _ ∧ _ = _ ∧ _); refine ⟨[], _, _, _, _, _, rfl, rfl, rfl, rfl, ?_⟩)
  | ((with_reducible show ∃ _ _ _ _ _, _ = _ ∧ _ = _ ∧ _ ∧ _ ∧ _ ∧ _ = _ ∧ _ = _ ∧ _); refine ⟨_, _, _, _, _, rfl, rfl, List.Mem.head _, by decide, by decide, rfl, rfl, ?_⟩)
  | ((with_reducible show ∃ _ _ _, _ = _ ∧ _ = _ ∧ _); refine ⟨[], _, _, rfl, rfl, ?_⟩)
  | ((with_reducible show ∃ _, Ds _ _ ∧ _ ∧ _); refine ⟨_, (by repeat (first | exact Ds.nil | apply Ds.cons)), (by simp), ?_⟩))
local macro_rules | `(tactic| walk_at "yy") => `(tactic| first | walk_at "ye" | walk_at "ya" | walk_at "ys" | walk_at "yo" | walk_at "yx" | walk_at "yc")

local macro_rules | `(tactic| walk_at "yc") => `(tactic| first | with_reducible refine isi_ii ?_ | with_reducible refine isi_ib ?_ | with_reducible refine isi_tt ?_ | with_reducible refine iw_zipN ?_ | with_reducible refine ev_revT ?_)
/-! ### the law's reading of what is heard -/
theorem c_addLV {K : PySem.W.Frag} {M : MM} {Q : Ent → MM → Prop} {L a b : Int} (z : Sz L) (ha : Bd 900 a) (hb : Bd 900 b) (p : Q (.dat (frq (qv L (a + b)))) M) : Cb K (fun vs H Q => SpQ K rAdd vs H Q E0) [.dat (frq (qv L a)), .dat (frq (qv L b))] M Q := by
  rw [← qadd_qv z.p] at p
  exact c_add (z.fq ha) (z.fq hb) p
theorem c_belowV {K : PySem.W.Frag} {M : MM} {Q : Ent → MM → Prop} {L a b : Int} (z : Sz L) (ha : Bd 900 a) (hb : Bd 900 b) (p : Q (.dat (.bool (decide (a < b)))) M) : Cb K (fun vs H Q => SpQ K rBelow vs H Q E0) [.dat (frq (qv L a)), .dat (frq (qv L b))] M Q := by
  have e : belowB (qv L a) (qv L b) = decide (a < b) := decide_eq_decide.mpr (qlt_qv z.p)
  rw [← e] at p
  exact c_below (z.fq ha) (z.fq hb) p
def rCellsL : RR := fun ds po => ∃ ns : List Int, ds = [rowD ns] ∧ ns.length ≤ 1000 ∧ po = fun r => r = .list ((sums 0 ns).map .int)
theorem rep_ints (x : Int) : ∀ k : Nat, (List.replicate k [PyData.int x]).flatten = (List.replicate k x).map PyData.int
  | 0 => rfl
  | k + 1 => by
    rw [List.replicate_succ, List.flatten_cons, rep_ints x k]
    rfl
def rLeadOf : RR := fun ds po => ∃ c D S lo most le, ds = [bdQ c D S lo most le] ∧ le ≤ 8 ∧ po = fun r => r = rowD (List.replicate le (most : Int))
theorem ins_asc {fs : List Int} {x : Int} {a : Nat} (h : fs.Pairwise (· ≤ ·)) (h1 : ∀ y ∈ fs.drop a, x < y) (h2 : ∀ y ∈ fs.take a, y ≤ x) : (fs.take a ++ [x] ++ fs.drop a).Pairwise (· ≤ ·) := by
  rw [← List.take_append_drop a fs] at h
  obtain ⟨p1, p2, p3⟩ := List.pairwise_append.mp h
  refine List.pairwise_append.mpr ⟨List.pairwise_append.mpr ⟨p1, List.pairwise_singleton _ _, fun u hu v hv => ?_⟩, p2, fun u hu v hv => ?_⟩
  · rw [List.mem_singleton.mp hv]
    exact h2 u hu
  · rcases List.mem_append.mp hu with hu | hu
    · exact p3 u hu v hv
    · rw [List.mem_singleton.mp hu]
      exact Int.le_of_lt (h1 v hv)
theorem ins_permI {x : Int} (fs : List Int) (n : Nat) : (fs.take n ++ [x] ++ fs.drop n).Perm (fs ++ [x]) := by
  have : (fs.take n ++ [x] ++ fs.drop n).Perm (fs.take n ++ fs.drop n ++ [x]) := by
    rw [List.append_assoc, List.append_assoc]
    exact List.Perm.append_left _ List.perm_append_comm
  rwa [List.take_append_drop] at this
theorem take_leI {fs : List Int} {x : Int} {a : Nat} (h : fs.Pairwise (· ≤ ·)) (h2 : ∀ y, fs[a]? = some y → y ≤ x) (ha : a < fs.length) : ∀ y ∈ fs.take (a + 1), y ≤ x := fun y hy => by
  have e := List.getElem?_eq_getElem ha
  have hx := h2 _ e
  rw [take_snoc e] at hy
  rcases List.mem_append.mp hy with hy | hy
  · have h3 : (fs.take (a + 1)).Pairwise (· ≤ ·) := h.sublist (List.take_sublist _ _)
    rw [take_snoc e] at h3
    have := (List.pairwise_append.mp h3).2.2 y hy _ (List.mem_singleton.mpr rfl)
    omega
  · rw [List.mem_singleton.mp hy]
    exact hx
abbrev rMomL : RR := rMoments .list
def rOrdT : RR := fun ds po => ∃ (d0 : PyData) (L : Int) (xs : List Int), ds = [d0] ∧ Sq d0 (qs L xs) ∧ Sz L ∧ (∀ x ∈ xs, Bd 900 x) ∧ xs.length ≤ 910 ∧ po = fun r => r = .tuple (qs L (srt xs))
def rLHeard : RR := fun ds po => ∃ L, ∃ (r : OptRow) (i : Option Item), ds = [slotD r, itemD L i] ∧ Sz L ∧ NOk r i ∧ po = fun x => x = hsD L (heardL r i)
def rLFull : RR := fun ds po => ∃ c D S lo most le, ∃ (data many spare : Int) (row : List Int), ds = [fmD (bdQ c D S lo most le) data many spare, rowD row] ∧ 1 ≤ lo ∧ lo ≤ most ∧ most ≤ 16 ∧ le ≤ 8 ∧ row.length ≤ 60 ∧ Beg lo most le data row ∧ po = fun r => r = .bool (decide (row.sum = data + 2 * ((le : Int) * (most : Int))))
def rBod (n : Nat) : RR := fun ds po => ∃ c D S lo most le, ∃ d : Nat, ds = [bdQ c D S lo most le, .int (d : Int)] ∧ 1 ≤ lo ∧ lo ≤ most ∧ most ≤ 16 ∧ d < n ∧ d ≤ 7 ∧ po = fun r => r = .list ((rowsL lo most d).map rowD)
theorem rows_few {lo most d : Nat} (h1 : 1 ≤ lo) (h7 : d ≤ 7) : (rowsL lo most d).length ≤ 128 := Nat.le_trans (rowsL_few h1 d d (Nat.le_refl _)) (Nat.le_trans (Nat.pow_le_pow_right (by decide) h7) (by decide))
section
variable {P : Program} {w : World} {K : PySem.W.Frag} {mg : Str → Option Value} {base : Heap}
theorem ok_l_sums (B : Bt mg) (D_l_add : Has P w K mg base 3 "_law_add" ["one", "other"] (SpQ K rAdd)) (T : Stands K mg "_law_sums" s_l_sums ["telling"]) : Has P w K mg base 4 "_law_sums" ["telling"] (SpQ K rMomL) := by
  refine hasQ T sc_l_sums (fun ds po ⟨L, m, ms, e, _⟩ => by rw [e]; rfl) 2 rfl fun f cdv A outer s H E g hr => ⟨_, (pss_cons (ps_set (i := 1) sc_l_sums.nd rfl (by first | exact .inl rfl | exact .inr rfl) (pe_lst (pa_cons (pe_ix ix_tup (pv 0) pe_int (fun _ _ => rfl)) pa_nil)))
      (pss_cons (ps_for PassesOwn.never rfl (pi_tup (pe_ix ix_tup (pv 0) pe_int (fun _ _ => rfl))) (pg_name (i := 2) sc_l_sums.nd rfl (by first | exact .inl rfl | exact .inr rfl)) (pss_one (ps_expr (pe_bm PySem.F.plainAttrs_list PySem.F.slot_list_append PySem.F.type_list_append mt_append (pv 1) (pa_cons (peD D_l_add g hr (by first | decide | exact Nat.le_refl _ | omega) (by rfl) (pa_cons (pe_ix ix_list (pv 1) (pe_un un_neg pe_int) (fun _ _ => rfl)) (pa_cons (pv 2) pa_nil))) pa_nil)))))
      (pss_one (ps_ret (pv 1))))), ?_⟩
  try dsimp only [cxOf]
  rintro ds po ⟨L, m, ms, rfl, z, sm, rfl⟩
  repeat' walk_at "yy"
  intro p hp
  repeat' walk_at "yy"
  refine sj_for ?_
  repeat' walk_at "yy"
  refine ⟨fun k es M => ∃ e2, es = [.dat (telD L m ms), .ref p, e2] ∧ M = [(p, .lst (qs L (sums m (ms.take k))))], ⟨.no, rfl, rfl⟩, ?_, ?_⟩
  · rintro k d es M hd ⟨e2, rfl, rfl⟩
    obtain ⟨x, hk, rfl⟩ := qs_at hd
    have hkl := (List.getElem?_eq_some_iff.mp hk).1
    have b1 : Bd 900 (m + (ms.take k).sum) := (sm.part (by omega)).up (by decide)
    have b2 : Bd 900 x := (sm.s x (List.mem_of_getElem? hk)).up (by decide)
    have aL : atI (qs L (sums m (ms.take k))) (-1) = some (frq (qv L (m + (ms.take k).sum))) := by
      obtain ⟨i, hi⟩ := sums_last m (ms.take k)
      rw [hi, qs_app]
      exact atI_last _ _
    repeat' walk_at "yy"
    refine ⟨ty_ref (List.Mem.head _), ?_⟩
    repeat' (first | refine o_ixM (List.Mem.head _) aL ?_ | refine c_addLV z b1 b2 ?_ | walk_at "yy")
    refine m_append (Ma := []) (Mb := []) rfl (by have := sm.l; rw [qs_len, sums_len, List.length_take]; omega) ?_
    refine ⟨.dat (frq (qv L x)), rfl, ?_⟩
    rw [take_snoc hk, sums_snoc, qs_app]
    rfl
  · rintro es M ⟨e2, rfl, rfl⟩
    rw [qs_len, List.take_length]
    refine sj_fast [] [] rfl hp (.keep (.hit (.keep .nil))) ?_
    repeat' walk_at "yy"
    rfl
theorem ok_l_cells (B : Bt mg)  (T : Stands K mg "_law_cells" s_l_cells ["row"]) : Has P w K mg base 1 "_law_cells" ["row"] (SpQ K rCellsL) := by
  refine hasQ T sc_l_cells (fun ds po ⟨ns, e, _⟩ => by rw [e]; rfl) 2 rfl fun f cdv A outer s H E g hr => ⟨_, (pss_cons (ps_set (i := 1) sc_l_cells.nd rfl (by first | exact .inl rfl | exact .inr rfl) (pe_lst (pa_cons pe_int pa_nil)))
      (pss_cons (ps_for PassesOwn.never rfl (pi_tup (pv 0)) (pg_name (i := 2) sc_l_cells.nd rfl (by first | exact .inl rfl | exact .inr rfl)) (pss_one (ps_expr (pe_bm PySem.F.plainAttrs_list PySem.F.slot_list_append PySem.F.type_list_append mt_append (pv 1) (pa_cons (pe_op op_add (pe_ix ix_list (pv 1) (pe_un un_neg pe_int) (fun _ _ => rfl)) (pv 2)) pa_nil)))))
      (pss_one (ps_ret (pv 1))))), ?_⟩
  try dsimp only [cxOf]
  rintro ds po ⟨ns, rfl, hl, rfl⟩
  repeat' walk_at "yy"
  intro p hp
  repeat' walk_at "yy"
  refine sj_for ?_
  repeat' walk_at "yy"
  refine ⟨fun k es M => ∃ e2, es = [.dat (rowD ns), .ref p, e2] ∧ M = [(p, .lst ((sums 0 (ns.take k)).map PyData.int))], ⟨.no, rfl, rfl⟩, ?_, ?_⟩
  · rintro k d es M hd ⟨e2, rfl, rfl⟩
    obtain ⟨x, hk, rfl⟩ := ints_at hd
    have hkl := (List.getElem?_eq_some_iff.mp hk).1
    have aL : atI ((sums 0 (ns.take k)).map PyData.int) (-1) = some (.int (0 + (ns.take k).sum)) := by
      obtain ⟨i, hi⟩ := sums_last 0 (ns.take k)
      rw [hi, List.map_append]
      exact atI_last _ _
    repeat' walk_at "yy"
    refine ⟨ty_ref (List.Mem.head _), ?_⟩
    repeat' (first | refine o_ixM (List.Mem.head _) aL ?_ | walk_at "yy")
    refine m_append (Ma := []) (Mb := []) rfl (by rw [List.length_map, sums_len, List.length_take]; omega) ?_
    refine ⟨.dat (.int x), rfl, ?_⟩
    rw [take_snoc hk, sums_snoc, List.map_append]
    rfl
  · rintro es M ⟨e2, rfl, rfl⟩
    rw [List.length_map, List.take_length]
    refine sj_fast [] [] rfl hp (.keep (.hit (.keep .nil))) ?_
    repeat' walk_at "yy"
    rfl
theorem ok_l_lead (B : Bt mg)  (T : Stands K mg "_law_lead" s_l_lead ["bounds"]) : Has P w K mg base 1 "_law_lead" ["bounds"] (SpQ K rLeadOf) := by
  refine hasQ T sc_l_lead (fun ds po ⟨c, D, S, lo, most, le, e, _⟩ => by rw [e]; rfl) 0 rfl fun f cdv A outer s H E g hr => ⟨_, (pss_one (ps_ret (pe_op op_repA (pe_tup (pa_cons (pe_ix ix_tup (pv 0) pe_int (fun _ _ => rfl)) pa_nil)) (pe_ix ix_tup (pv 0) pe_int (fun _ _ => rfl))))), ?_⟩
  try dsimp only [cxOf]
  rintro ds po ⟨c, D, S, lo, most, le, rfl, h8, rfl⟩
  repeat' walk_at "yy"
  refine o_repA (List.cons_ne_nil _ _) (by omega) (by omega) (by simp) ?_
  rw [show ((le : Int)).toNat = le from rfl, rep_ints]
  repeat' walk_at "yy"
  rfl
theorem ok_l_in_order (B : Bt mg) (D_l_is_below : Has P w K mg base 1 "_law_is_below" ["one", "other"] (SpQ K rBelow)) (T : Stands K mg "_law_in_order" s_l_in_order ["some"]) : Has P w K mg base 2 "_law_in_order" ["some"] (SpQ K rOrdT) := by
  refine hasQ T sc_l_in_order (fun ds po ⟨d0, L, xs, e, _⟩ => by rw [e]; rfl) 3 rfl fun f cdv A outer s H E g hr => ⟨_, (pss_cons (ps_set (i := 1) sc_l_in_order.nd rfl (by first | exact .inl rfl | exact .inr rfl) (pe_lst pa_nil))
      (pss_cons (ps_for PassesOwn.never rfl (pi_seq (pv 0)) (pg_name (i := 2) sc_l_in_order.nd rfl (by first | exact .inl rfl | exact .inr rfl)) (pss_cons (ps_set (i := 3) sc_l_in_order.nd rfl (by first | exact .inl rfl | exact .inr rfl) (pe_callB call_len_seq (by rfl) B.b_len (by decide +kernel) (pa_cons (pv 1) pa_nil)))
      (pss_cons (ps_while PassesOwn.never (PW.pt (pw_and (pt_cmpR op_gt (pv 3) pe_int (nomark _)) (pw_and1 (pt_val (peD D_l_is_below g hr (by first | decide | exact Nat.le_refl _ | omega) (by rfl) (pa_cons (pv 2) (pa_cons (pe_ix ix_list (pv 1) (pe_op op_sub (pv 3) pe_int) (fun _ _ => rfl)) pa_nil))))))) (pss_one (ps_aug (i := 3) sc_l_in_order.nd rfl (by first | exact .inl rfl | exact .inr rfl) pe_int ip_sub)))
      (pss_one (ps_expr (pe_bm PySem.F.plainAttrs_list PySem.F.slot_list_insert PySem.F.type_list_insert mt_insert (pv 1) (pa_cons (pv 3) (pa_cons (pv 2) pa_nil))))))))
      (pss_one (ps_ret (pe_callTy call_tuple_of (by rfl) B.b_tuple (by decide +kernel) (pa_cons (pv 1) pa_nil)))))), ?_⟩
  try dsimp only [cxOf]
  rintro ds po ⟨d0, L, xs, rfl, hs, z, hb, hl, rfl⟩
  repeat' walk_at "yy"
  intro p hp
  repeat' walk_at "yy"
  refine sj_for ?_
  repeat' walk_at "yy"
  refine ⟨_, qs L xs, rfl, hs, ?_⟩
  refine ⟨fun k es M => ∃ (fs : List Int) (e2 e3 : Ent), es = [.dat d0, .ref p, e2, e3] ∧ M = [(p, .lst (qs L fs))] ∧ fs.Perm (xs.take k) ∧ fs.Pairwise (· ≤ ·), ⟨[], .no, .no, rfl, rfl, by simp, by simp⟩, ?_, ?_⟩
  · rintro k d es M hd ⟨fs, e2, e3, rfl, rfl, hperm, hsort⟩
    obtain ⟨x, hk, rfl⟩ := qs_at hd
    have hkl := (List.getElem?_eq_some_iff.mp hk).1
    have hbx : Bd 900 x := hb x (List.mem_of_getElem? hk)
    have hfs : ∀ f ∈ fs, Bd 900 f := fun f hf => hb f (List.mem_of_mem_take (hperm.subset hf))
    have hfl : fs.length ≤ 910 := by rw [hperm.length_eq, List.length_take]; omega
    repeat' walk_at "yy"
    refine c_lenM (List.Mem.head _) ?_
    rw [qs_len]
    repeat' walk_at "yy"
    refine sj_while (fun m es M => ∃ a : Nat, m = a ∧ a ≤ fs.length ∧ es = [.dat d0, .ref p, .dat (frq (qv L x)), .dat (.int (a : Int))] ∧ M = [(p, .lst (qs L fs))] ∧ ∀ y ∈ fs.drop a, x < y) fs.length ⟨fs.length, rfl, Nat.le_refl _, rfl, rfl, by simp⟩ ?_
    rintro m es M ⟨a, rfl, ha, rfl, rfl, hgt⟩
    have pm : ∀ n, (fs.take n ++ [x] ++ fs.drop n).Perm (xs.take (k + 1)) := fun n => by
      rw [take_snoc hk]
      exact (ins_permI fs n).trans (hperm.append_right _)
    have em : ∀ n : Nat, qs L (fs.take n ++ [x] ++ fs.drop n) = (qs L fs).take n ++ [frq (qv L x)] ++ (qs L fs).drop n := fun n => by
      rw [qs_app, qs_app, qs_drop, qs_take]
      rfl
    refine et_and ?_
    repeat' walk_at "yy"
    · rename_i h
      have h := of_decide_eq_true h
      obtain ⟨a, rfl⟩ : ∃ a, m = a + 1 := ⟨m - 1, by omega⟩
      have ha2 : a < fs.length := by omega
      have hy := List.getElem?_eq_getElem ha2
      generalize fs[a] = y at hy
      have a1 : atI (qs L fs) (((a + 1 : Nat) : Int) - 1) = some (frq (qv L y)) := by
        rw [show ((a + 1 : Nat) : Int) - 1 = ((a : Nat) : Int) by omega]
        exact atI_nat (qs_get hy)
      repeat' (first | refine o_ixM (List.Mem.head _) a1 ?_ | refine c_belowV z hbx (hfs y (List.mem_of_getElem? hy)) ?_ | walk_at "yy")
      · rename_i h2
        have h2 := of_decide_eq_true h2
        refine sj_aug rfl ?_
        repeat' walk_at "yy"
        refine ⟨a, by omega, a, rfl, by omega, ?_, rfl, fun u hu => ?_⟩
        · rw [show ((a + 1 : Nat) : Int) - 1 = ((a : Nat) : Int) by omega]
          rfl
        · rw [drop_cons hy] at hu
          rcases List.mem_cons.mp hu with rfl | hu
          · exact h2
          · exact hgt u hu
      · rename_i h2
        have h2 : ¬ x < y := of_decide_eq_false h2
        refine ⟨ty_ref (List.Mem.head _), ?_⟩
        repeat' walk_at "yy"
        refine m_insert (Ma := []) (Mb := []) rfl (by rw [qs_len]; omega) (by omega) (by omega) ?_
        refine ⟨fs.take (a + 1) ++ [x] ++ fs.drop (a + 1), _, _, rfl, ?_, pm _, ins_asc hsort hgt (take_leI hsort (fun u hu => by rw [hy] at hu; cases hu; omega) ha2)⟩
        rw [em]
        rfl
    · exact absurd ‹false = true› (by decide)
    · rename_i h _
      have h := of_decide_eq_false h
      obtain rfl : m = 0 := by omega
      refine ⟨ty_ref (List.Mem.head _), ?_⟩
      repeat' walk_at "yy"
      refine m_insert (Ma := []) (Mb := []) rfl (by rw [qs_len]; omega) (by omega) (by omega) ?_
      refine ⟨fs.take 0 ++ [x] ++ fs.drop 0, _, _, rfl, ?_, pm _, ins_asc hsort hgt (fun u hu => nomatch hu)⟩
      rw [em]
      rfl
  · rintro es M ⟨fs, e2, e3, rfl, rfl, hperm, hsort⟩
    rw [qs_len, List.take_length] at hperm
    refine sj_fast [] [] rfl hp (.keep (.hit (.keep (.keep .nil)))) ?_
    repeat' walk_at "yy"
    refine c_tuple (.lst _) ?_
    repeat' walk_at "yy"
    rw [srt_of hperm hsort]
theorem ok_l_hearing (B : Bt mg) (D_l_sums : Has P w K mg base 4 "_law_sums" ["telling"] (SpQ K rMomL)) (D_l_in_order : Has P w K mg base 2 "_law_in_order" ["some"] (SpQ K rOrdT)) (D_l_add : Has P w K mg base 3 "_law_add" ["one", "other"] (SpQ K rAdd)) (D_l_cells : Has P w K mg base 1 "_law_cells" ["row"] (SpQ K rCellsL)) (T : Stands K mg "_law_hearing" s_l_hearing ["telling", "row", "shifts"]) : Has P w K mg base 5 "_law_hearing" ["telling", "row", "shifts"] (SpQ K rHearS) := by
  refine hasQ T sc_l_hearing (fun ds po ⟨L, m, ms, ns, ss, e, _⟩ => by rw [e]; rfl) 3 rfl fun f cdv A outer s H E g hr => ⟨_, (pss_cons (ps_set (i := 3) sc_l_hearing.nd rfl (by first | exact .inl rfl | exact .inr rfl) (peD D_l_sums g hr (by first | decide | exact Nat.le_refl _ | omega) (by rfl) (pa_cons (pv 0) pa_nil)))
      (pss_one (ps_ret (peD D_l_in_order g hr (by first | decide | exact Nat.le_refl _ | omega) (by rfl) (pa_cons (pe_lc (own := [("cell", 4), ("shift", 5)]) (g := gTup _ 2 (gCons (gName 4) (gCons (gName 5) (gNil)))) (tt := tYes) rfl sc_l_hearing.nd (pi_zipN (by rfl) B.b_zip (pa_cons (peD D_l_cells g hr (by first | decide | exact Nat.le_refl _ | omega) (by rfl) (pa_cons (pv 1) pa_nil)) (pa_cons (pv 2) pa_nil))) (blkOk_by (N := N_l_hearing) (sc := defScope s_l_hearing) (by decide +kernel)) (fun _ _ _ _ _ => (pg_tup rfl (pgs_cons (pg_name (i := 4) sc_l_hearing.nd rfl (by first | exact .inl rfl | exact .inr rfl)) (pgs_cons (pg_name (i := 5) sc_l_hearing.nd rfl (by first | exact .inl rfl | exact .inr rfl)) pgs_nil)))) (fun _ _ _ _ _ => pts_nil) (fun _ _ _ _ _ => (peD D_l_add g hr (by first | decide | exact Nat.le_refl _ | omega) (by rfl) (pa_cons (pe_ix (ixlK (K := K) rfl) (pv 3) (pv 4) (fun _ _ => rfl)) (pa_cons (pv 5) pa_nil))))) pa_nil))))), ?_⟩
  try dsimp only [cxOf]
  rintro ds po ⟨L, m, ms, ns, ss, rfl, z, sm, hw, nl, sl, sb, rfl⟩
  repeat' walk_at "yy"
  refine c_Q (.cons .nil) _ ⟨L, m, ms, rfl, z, sm, rfl⟩ fun r er => ?_
  subst er
  repeat' walk_at "yy"
  refine ev_lc (own_pair (by decide) (by decide)) ?_
  repeat' walk_at "yy"
  refine c_Q (.cons .nil) _ ⟨ns, rfl, hw.l, rfl⟩ fun r er => ?_
  subst er
  repeat' walk_at "yy"
  have zz : zipD ((sums 0 ns).map PyData.int) (qs L ss) = ((sums 0 ns).zip ss).map fun p => PyData.tuple [.int p.1, frq (qv L p.2)] := by
    show zipD _ ((ss.map (qv L)).map frq) = _
    rw [List.map_map]
    exact zipD_map _ _ _ _
  rw [zz]
  have mb := marks_bd hw sm
  have zl : ((sums 0 ns).zip ss).length ≤ 126 := by rw [List.length_zip]; omega
  refine ⟨fun k acc M => acc = qs L ((((sums 0 ns).zip ss).take k).map fun p => (m + (ms.take p.1.toNat).sum) + p.2) ∧ M = [], ⟨by simp [qs], rfl⟩, fun k d acc M hd e => ?_, fun acc M e => ?_⟩
  · obtain ⟨rfl, rfl⟩ := e
    obtain ⟨p, hk, rfl⟩ := map_at hd
    have hm := List.of_mem_zip (a := p.1) (b := p.2) (List.mem_of_getElem? hk)
    have b1 : Bd 720 (m + (ms.take p.1.toNat).sum) := sm.part (hw.cell hm.1).2
    have b2 := sb _ hm.2
    have hc := hw.mark L m hm.1
    refine ⟨by rw [qs_len, List.length_map, List.length_take]; omega, ?_⟩
    repeat' (first | exact absurd ‹true = false› (by decide) | refine o_ixL hc ?_ | refine c_addLV z (b1.up (by decide)) (b2.up (by decide)) ?_ | walk_at "yy")
    refine ⟨?_, rfl⟩
    rw [map_snoc hk, qs_app]
    rfl
  obtain ⟨rfl, rfl⟩ := e
  rw [List.length_map, List.take_length]
  have em : (((sums 0 ns).zip ss).map fun p => (m + (ms.take p.1.toNat).sum) + p.2) = List.zipWith (· + ·) (marks m ms ns) ss := by
    unfold marks
    rw [List.zipWith_map_left, List.map_zip_eq_zipWith]
    rfl
  rw [em]
  repeat' walk_at "yy"
  refine c_Q (.cons .nil) _ ⟨_, L, _, rfl, .lst _, z, fun x hx => ?_, by rw [← em, List.length_map]; omega, rfl⟩ fun r er => ?_
  · rw [← em] at hx
    obtain ⟨p, hp, rfl⟩ := List.mem_map.mp hx
    have hm := List.of_mem_zip (a := p.1) (b := p.2) hp
    exact ((sm.part (hw.cell hm.1).2).add (sb _ hm.2)).up (by decide)
  subst er
  exact ⟨_, rfl, rfl⟩
theorem ok_l_harmed (B : Bt mg) (D_l_in_order : Has P w K mg base 2 "_law_in_order" ["some"] (SpQ K rOrdT)) (T : Stands K mg "_law_harmed" s_l_harmed ["hearing", "harm"]) : Has P w K mg base 3 "_law_harmed" ["hearing", "harm"] (SpQ K rHarmedS) := by
  refine hasQ T sc_l_harmed (fun ds po ⟨L, hs, h, e, _⟩ => by rw [e]; rfl) 2 rfl fun f cdv A outer s H E g hr => ⟨_, (pss_cons (ps_if (pt_cmpR op_eq (pe_ix ix_tup (pv 1) pe_int (fun _ _ => rfl)) pe_str (nomark _)) (pss_one (ps_ret (peD D_l_in_order g hr (by first | decide | exact Nat.le_refl _ | omega) (by rfl) (pa_cons (pe_op op_catA (pv 0) (pe_ix ix_tup (pv 1) pe_int (fun _ _ => rfl))) pa_nil)))) pss_nil)
      (pss_one (ps_ret (pe_callTy call_tuple_of (by rfl) B.b_tuple (by decide +kernel) (pa_cons (pe_lc (own := [("index", 2), ("moment", 3)]) (g := gTup _ 2 (gCons (gName 2) (gCons (gName 3) (gNil)))) (tt := _) rfl sc_l_harmed.nd (pi_enumT (by rfl) B.b_enumerate (pa_cons (pv 0) pa_nil)) (blkOk_by (N := N_l_harmed) (sc := defScope s_l_harmed) (by decide +kernel)) (fun _ _ _ _ _ => (pg_tup rfl (pgs_cons (pg_name (i := 2) sc_l_harmed.nd rfl (by first | exact .inl rfl | exact .inr rfl)) (pgs_cons (pg_name (i := 3) sc_l_harmed.nd rfl (by first | exact .inl rfl | exact .inr rfl)) pgs_nil)))) (fun _ _ _ _ _ => pts_one (pt_cmpR (op_notInK (K := K) rfl) (pv 2) (pe_ix (ixtK (K := K) rfl) (pv 1) pe_int (fun _ _ => rfl)) (by with_unfolding_all rfl))) (fun _ _ _ _ _ => (pv 3))) pa_nil))))), ?_⟩
  try dsimp only [cxOf]
  rintro ds po ⟨L, hs, h, rfl, z, hk, hb, hl, up, rfl⟩
  cases h with
  | mis js =>
    obtain ⟨jl, jb⟩ := hk
    unfold hD
    dsimp only
    repeat' (first | exact absurd ‹decide (Str.ofString "missed" = Str.ofString "clicks") = true› (by decide) | walk_at "yy")
    refine ev_lc (own_pair (by decide) (by decide)) ?_
    repeat' walk_at "yy"
    refine ⟨fun k acc M => acc = qs L (missT js hs k) ∧ M = [], ⟨rfl, rfl⟩, fun k d acc M hd e => ?_, fun acc M e => ?_⟩
    · obtain ⟨rfl, rfl⟩ := e
      obtain ⟨x, hx, rfl⟩ := enumD_at hd
      obtain ⟨y, hy, rfl⟩ := qs_at hx
      have hkl := (List.getElem?_eq_some_iff.mp hy).1
      refine ⟨?_, ?_⟩
      · rw [qs_len]
        have h1 := missT_len js hs k
        omega
      repeat' (first | refine o_notInI (ns := js) (.tup _) ?_ | walk_at "yy")
      · rename_i h
        refine ⟨?_, rfl⟩
        rw [missT_no (by simpa using h) hy, qs_app]
        rfl
      · rename_i h
        refine ⟨?_, rfl⟩
        rw [missT_yes (by simpa using h)]
    obtain ⟨rfl, rfl⟩ := e
    rw [show (enumD 0 (qs L hs)).length = hs.length by rw [enumD_len, qs_len]]
    repeat' walk_at "yy"
    refine c_tuple (.lst _) ?_
    repeat' walk_at "yy"
    rfl
  | cli ws =>
    obtain ⟨wl, wu, wb⟩ := hk
    unfold hD
    dsimp only
    repeat' (first | exact absurd ‹decide (Str.ofString "clicks" = Str.ofString "clicks") = false› (by decide) | walk_at "yy")
    · rw [qs_len, qs_len]; omega
    rw [← qs_app]
    refine c_Q (.cons .nil) _ ⟨_, L, hs ++ ws, rfl, .tup _, z, fun x hx => ?_, by rw [List.length_append]; omega, rfl⟩ fun r er => ?_
    · rcases List.mem_append.mp hx with hx | hx
      · exact (hb x hx).up (by decide)
      · exact (wb x hx).up (by decide)
    subst er
    exact ⟨_, rfl, rfl⟩
theorem ok_l_heard (B : Bt mg) (D_l_harmed : Has P w K mg base 3 "_law_harmed" ["hearing", "harm"] (SpQ K rHarmedS)) (D_l_hearing : Has P w K mg base 5 "_law_hearing" ["telling", "row", "shifts"] (SpQ K rHearS)) (T : Stands K mg "_law_heard" s_l_heard ["slot", "one"]) : Has P w K mg base 6 "_law_heard" ["slot", "one"] (SpQ K rLHeard) := by
  refine hasQ T sc_l_heard (fun ds po ⟨L, r, i, e, _⟩ => by rw [e]; rfl) 0 rfl fun f cdv A outer s H E g hr => ⟨_, (pss_one (ps_ret (pe_ifExp (pt_cmpR op_isN (pv 0) pe_non (nomark _)) (pe_tup pa_nil) (peD D_l_harmed g hr (by first | decide | exact Nat.le_refl _ | omega) (by rfl) (pa_cons (peD D_l_hearing g hr (by first | decide | exact Nat.le_refl _ | omega) (by rfl) (pa_cons (pe_ix ix_tup (pv 1) pe_int (fun _ _ => rfl)) (pa_cons (pv 0) (pa_cons (pe_ix ix_tup (pv 1) pe_int (fun _ _ => rfl)) pa_nil)))) (pa_cons (pe_ix ix_tup (pv 1) pe_int (fun _ _ => rfl)) pa_nil)))))), ?_⟩
  try dsimp only [cxOf]
  rintro ds po ⟨L, r, i, rfl, z, hn, rfl⟩
  match r, i, hn with
  | none, none, _ =>
    dsimp only [slotD, itemD]
    repeat' (first | refine o_isN2 ?_ | exact absurd ‹isNone .none = false› (by decide) | walk_at "yy")
    exact rfl
  | some r, some i, hi =>
    have hi : ItemOk r i := hi
    dsimp only [slotD, itemD]
    repeat' (first | refine o_isN2 ?_ | exact absurd ‹isNone (rowD r) = true› Bool.false_ne_true | walk_at "yy")
    refine c_Q (.cons (.cons (.cons .nil))) _ ⟨L, i.m, i.ms, r, i.ss, rfl, z, hi.sm, hi.rw, by have := hi.rl; omega, hi.sl, fun s hs => (hi.bb s hs).up (by decide), rfl⟩ fun x er => ?_
    subst er
    repeat' walk_at "yy"
    refine c_Q (.cons (.cons .nil)) _ ⟨L, hears r i, i.h, rfl, z, hi.hk, hears_bd hi, by have := hears_len hi; have := hi.rl; omega, srt_asc _, rfl⟩ fun x er => ?_
    subst er
    exact ⟨_, rfl, rfl⟩
theorem ok_l_back (B : Bt mg)  (T : Stands K mg "_law_back" s_l_back ["hearing"]) : Has P w K mg base 1 "_law_back" ["hearing"] (SpQ K rBackS) := by
  refine hasQ T sc_l_back (fun ds po ⟨L, xs, e, _⟩ => by rw [e]; rfl) 2 rfl fun f cdv A outer s H E g hr => ⟨_, (pss_one (ps_ret (pe_callTy call_tuple_of (by rfl) B.b_tuple (by decide +kernel) (pa_cons (pe_lc (own := [("n", 1), ("d", 2)]) (g := gTup _ 2 (gCons (gName 1) (gCons (gName 2) (gNil)))) (tt := tYes) rfl sc_l_back.nd (pi_tup (pe_revT (pv 0))) (blkOk_by (N := N_l_back) (sc := defScope s_l_back) (by decide +kernel)) (fun _ _ _ _ _ => (pg_tup rfl (pgs_cons (pg_name (i := 1) sc_l_back.nd rfl (by first | exact .inl rfl | exact .inr rfl)) (pgs_cons (pg_name (i := 2) sc_l_back.nd rfl (by first | exact .inl rfl | exact .inr rfl)) pgs_nil)))) (fun _ _ _ _ _ => pts_nil) (fun _ _ _ _ _ => (pe_tup (pa_cons (pe_un un_neg (pv 1)) (pa_cons (pv 2) pa_nil))))) pa_nil)))), ?_⟩
  try dsimp only [cxOf]
  rintro ds po ⟨L, xs, rfl, z, hl, rfl⟩
  repeat' walk_at "yy"
  refine ev_lc (own_pair (by decide) (by decide)) ?_
  repeat' walk_at "yy"
  rw [← qs_rev]
  refine ⟨fun k acc M => acc = qs L ((xs.reverse.take k).map fun x => -x) ∧ M = [], ⟨by simp [qs], rfl⟩, fun k d acc M hd e => ?_, fun acc M e => ?_⟩
  · obtain ⟨rfl, rfl⟩ := e
    obtain ⟨x, hk, rfl⟩ := qs_at hd
    refine ⟨by rw [qs_len, List.length_map, List.length_take, List.length_reverse]; omega, ?_⟩
    repeat' (first | exact absurd ‹true = false› (by decide) | walk_at "yy")
    refine ⟨?_, rfl⟩
    rw [map_snoc hk, qs_app, show ([-x] : List Int) = [-x] from rfl]
    show _ = _ ++ [frq (qv L (-x))]
    rw [← qneg_qv z.p]
  obtain ⟨rfl, rfl⟩ := e
  rw [qs_len, List.take_length]
  repeat' walk_at "yy"
  refine c_tuple (.lst _) ?_
  repeat' walk_at "yy"
  rfl
theorem ok_l_is_full (B : Bt mg) (D_l_lead : Has P w K mg base 1 "_law_lead" ["bounds"] (SpQ K rLeadOf)) (T : Stands K mg "_law_is_full" s_l_is_full ["form", "slot"]) : Has P w K mg base 2 "_law_is_full" ["form", "slot"] (SpQ K rLFull) := by
  refine hasQ T sc_l_is_full (fun ds po ⟨c, D, S, lo, most, le, data, many, spare, row, e, _⟩ => by rw [e]; rfl) 1 rfl fun f cdv A outer s H E g hr => ⟨_, (pss_cons (ps_set (i := 2) sc_l_is_full.nd rfl (by first | exact .inl rfl | exact .inr rfl) (peD D_l_lead g hr (by first | decide | exact Nat.le_refl _ | omega) (by rfl) (pa_cons (pe_ix ix_tup (pv 0) pe_int (fun _ _ => rfl)) pa_nil)))
      (pss_one (ps_ret (pe_and (pe_cmpR op_eq (pe_callB (cr_sumA rfl) (by rfl) B.b_sum (by decide +kernel) (pa_cons (pv 1) pa_nil)) (pe_op op_add (pe_ix ix_tup (pv 0) pe_int (fun _ _ => rfl)) (pe_op op_mulA pe_int (pe_callB (cr_sumA rfl) (by rfl) B.b_sum (by decide +kernel) (pa_cons (pv 2) pa_nil)))) (nomark _)) (pe_one (pe_cmpR (op_eqD hr.units) (pe_slice sl_tupA (pv 1) (po_some (pe_op op_sub (pe_callB call_len_seq (by rfl) B.b_len (by decide +kernel) (pa_cons (pv 1) pa_nil)) (pe_callB call_len_seq (by rfl) B.b_len (by decide +kernel) (pa_cons (pv 2) pa_nil)))) po_none) (pv 2) (nomark _))))))), ?_⟩
  try dsimp only [cxOf]
  rintro ds po ⟨c, D, S, lo, most, le, data, many, spare, row, rfl, h1, hlm, m16, e8, rl, hb, rfl⟩
  repeat' walk_at "yy"
  refine c_Q (.cons .nil) _ ⟨c, D, S, lo, most, le, rfl, e8, rfl⟩ fun r er => ?_
  subst er
  have sl : (List.replicate le (most : Int)).sum = (le : Int) * (most : Int) := sum_repl _ _
  by_cases e : row.sum = data + 2 * ((le : Int) * (most : Int))
  case neg =>
    repeat' (first | exact absurd ((of_decide_eq_true ‹decide (row.sum = data + 2 * (List.replicate le (most : Int)).sum) = true›).trans (by rw [sl])) e | refine c_sumA (.tup _) ?_ | walk_at "yy")
    rw [decide_eq_false e]
  obtain ⟨body, hs, hbi, hrow⟩ := beg_whole h1 hlm hb e
  repeat' (first | exact absurd (e.trans (by rw [sl])) (of_decide_eq_false ‹decide (row.sum = data + 2 * (List.replicate le (most : Int)).sum) = false›) | refine c_sumA (.tup _) ?_ | refine sl_T ?_ | walk_at "yy")
  have ll : row.length = le + body.length + le := by rw [hrow]; simp; omega
  rw [List.length_map, List.length_map, List.length_replicate, show (row.length : Int) - (le : Int) = ((row.length - le : Nat) : Int) by omega, cut_fromG, ← List.map_drop]
  have t2 : row.drop (row.length - le) = List.replicate le (most : Int) := by
    rw [ll, show le + body.length + le - le = le + body.length by omega, hrow, List.drop_left' (by simp)]
  rw [t2]
  have wj : Wt (8 * 1923 + 3) 1 (rowD (List.replicate le (most : Int))) := wt_ints (by rw [List.length_replicate]; exact e8) fun x hx => by
    rw [(List.mem_replicate.mp hx).2]
    exact Nat.lt_of_lt_of_le (show ((most : Int)).natAbs < 2 ^ 10 by omega) (Nat.pow_le_pow_right (by decide) (by decide))
  refine o_eqD (wj.shaped (by decide)) (wj.shaped (by decide)) ?_
  rw [show PyData.eqv (.tuple (List.map PyData.int (List.replicate le (most : Int)))) (rowD (List.replicate le (most : Int))) = true from eqv_self wj]
  repeat' walk_at "yy"
  rw [decide_eq_true e]
theorem bodies_step (n : Nat) (B : Bt mg) (D_l_bodies : Has P w K mg base n "_law_bodies" ["bounds", "data"] (SpQ K (rBod n))) (T : Stands K mg "_law_bodies" s_l_bodies ["bounds", "data"]) : Has P w K mg base (n + 1) "_law_bodies" ["bounds", "data"] (SpQ K (rBod (n + 1))) := by
  refine hasQ T sc_l_bodies (fun ds po ⟨c, D, S, lo, most, le, d, e, _⟩ => by rw [e]; rfl) 3 rfl fun f cdv A outer s H E g hr => ⟨_, (pss_cons (ps_if (pt_cmpR op_eq (pv 1) pe_int (nomark _)) (pss_one (ps_ret (pe_lst (pa_cons (pe_tup pa_nil) pa_nil)))) pss_nil)
      (pss_cons (ps_set (i := 2) sc_l_bodies.nd rfl (by first | exact .inl rfl | exact .inr rfl) (pe_lst pa_nil))
      (pss_cons (ps_for PassesOwn.never rfl (pi_range2 (by rfl) B.b_range (pa_cons (pe_ix ix_tup (pv 0) pe_int (fun _ _ => rfl)) (pa_cons (pe_op op_add (pe_callB (call_min2 rfl) (by rfl) B.b_min (by decide +kernel) (pa_cons (pe_ix ix_tup (pv 0) pe_int (fun _ _ => rfl)) (pa_cons (pv 1) pa_nil))) pe_int) pa_nil))) (pg_name (i := 3) sc_l_bodies.nd rfl (by first | exact .inl rfl | exact .inr rfl)) (pss_one (ps_expr (pe_bm PySem.F.plainAttrs_list PySem.F.slot_list_extend PySem.F.type_list_extend mt_extend (pv 2) (pa_cons (pe_lc (own := [("row", 4)]) (g := gName 4) (tt := tYes) rfl sc_l_bodies.nd (pi_list (peD D_l_bodies g hr (by first | decide | exact Nat.le_refl _ | omega) (by rfl) (pa_cons (pv 0) (pa_cons (pe_op op_sub (pv 1) (pv 3)) pa_nil)))) (blkOk_by (N := N_l_bodies) (sc := defScope s_l_bodies) (by decide +kernel)) (fun _ _ _ _ _ => (pg_name (i := 4) sc_l_bodies.nd rfl (by first | exact .inl rfl | exact .inr rfl))) (fun _ _ _ _ _ => pts_nil) (fun _ _ _ _ _ => (pe_op (catK (K := K) rfl) (pe_tup (pa_cons (pv 3) pa_nil)) (pv 4)))) pa_nil)))))
      (pss_one (ps_ret (pv 2)))))), ?_⟩
  try dsimp only [cxOf]
  rintro ds po ⟨c, D, S, lo, most, le, d, rfl, h1, hlm, m16, hdn, h7, rfl⟩
  repeat' walk_at "yy"
  · have z := of_decide_eq_true ‹decide ((d : Int) = 0) = true›
    have z : d = 0 := by omega
    subst z
    rw [rowsL_zero]
    rfl
  have z := of_decide_eq_false ‹decide ((d : Int) = 0) = false›
  have z : d ≠ 0 := fun e => z (by omega)
  have few := rows_few (most := most) h1 h7
  intro p hp
  repeat' walk_at "yy"
  refine sj_for ?_
  repeat' walk_at "yy"
  refine ⟨by split <;> omega, ?_⟩
  refine ⟨fun k es M => ∃ (rs : List (List Int)) (e3 e4 : Ent), es = [.dat (bdQ c D S lo most le), .dat (.int (d : Int)), .ref p, e3, e4] ∧ M = [(p, .lst (rs.map rowD))] ∧ rs ++ rowsR lo most d (lo + k) = rowsL lo most d, ⟨[], .no, .no, rfl, rfl, (rowsL_eq h1 z).symm⟩, ?_, ?_⟩
  · rintro k x es M hd ⟨rs, e3, e4, rfl, rfl, hrs⟩
    obtain ⟨hk, rfl⟩ := rgD_at hd
    have r1 : lo + k ≤ most ∧ lo + k ≤ d := by
      split at hk <;> omega
    have lr : rs.length ≤ 128 := by
      have := congrArg List.length hrs
      rw [List.length_append] at this
      omega
    repeat' walk_at "yy"
    refine ⟨ty_ref (List.Mem.head _), ?_⟩
    repeat' walk_at "yy"
    refine ev_lc (own_name (by decide)) ?_
    repeat' walk_at "yy"
    rw [show (d : Int) - ((lo : Int) + (k : Int)) = ((d - (lo + k) : Nat) : Int) by omega]
    refine c_Q (.cons (.cons .nil)) _ ⟨c, D, S, lo, most, le, d - (lo + k), rfl, h1, hlm, m16, by omega, by omega, rfl⟩ fun r er => ?_
    subst er
    have few2 := rows_few (most := most) h1 (show d - (lo + k) ≤ 7 by omega)
    have rm := rowsL_mem h1 (most := most) (d - (lo + k)) (d - (lo + k)) (Nat.le_refl _)
    repeat' walk_at "yy"
    refine ⟨fun j acc M => acc = ((rowsL lo most (d - (lo + k))).take j).map (fun q => rowD (((lo + k : Nat) : Int) :: q)) ∧ M = [(p, .lst (rs.map rowD))], ⟨rfl, rfl⟩, fun j x acc M hx e => ?_, fun acc M e => ?_⟩
    · obtain ⟨rfl, rfl⟩ := e
      obtain ⟨q, hq, rfl⟩ := map_at hx
      have hql := (rm q (List.mem_of_getElem? hq)).2.1
      refine ⟨by rw [List.length_map, List.length_take]; omega, ?_⟩
      repeat' (first | exact absurd ‹true = false› (by decide) | walk_at "yy")
      · rw [List.length_map]
        simp
        omega
      refine ⟨?_, rfl⟩
      rw [map_snoc hq]
      rfl
    obtain ⟨rfl, rfl⟩ := e
    rw [List.length_map, List.take_length]
    repeat' walk_at "yy"
    refine m_extend (Ma := []) (Mb := []) rfl (by rw [List.length_map, List.length_map]; omega) ?_
    refine ⟨rs ++ fromQ lo most d (lo + k), _, _, rfl, ?_, ?_⟩
    · rw [List.map_append]
      unfold fromQ
      rw [List.map_map]
      rfl
    · rw [List.append_assoc, show lo + (k + 1) = lo + k + 1 by omega, ← rowsR_step (by omega)]
      exact hrs
  · rintro es M ⟨rs, e3, e4, rfl, rfl, hrs⟩
    rw [rgD_len, rowsR_end (by split <;> omega), List.append_nil] at hrs
    subst hrs
    refine sj_fast [] [] rfl hp (.keep (.keep (.hit (.keep (.keep .nil))))) ?_
    repeat' walk_at "yy"
    rfl
theorem bodies_all (B : Bt mg) (T : Stands K mg "_law_bodies" s_l_bodies ["bounds", "data"]) : ∀ n, Has P w K mg base n "_law_bodies" ["bounds", "data"] (SpQ K (rBod n))
  | 0 => by
    obtain ⟨f, fd, m, F, b⟩ := T.ex
    refine ⟨f, fd, m, F.kp, b, ⟨fun vs H Q E h => ?_, fun A outer s H args us vs Q _ _ _ _ _ h => ?_⟩⟩
    · obtain ⟨G, ds, po, _, _, ⟨c, D, S, lo, most, le, d, _, _, _, _, hd, _⟩, _⟩ := h
      omega
    · obtain ⟨G, ds, po, _, _, ⟨c, D, S, lo, most, le, d, _, _, _, _, hd, _⟩, _⟩ := h
      omega
  | n + 1 => bodies_step n B (bodies_all B T n) T
theorem ok_l_bodies (B : Bt mg) (T : Stands K mg "_law_bodies" s_l_bodies ["bounds", "data"]) : Has P w K mg base 8 "_law_bodies" ["bounds", "data"] (SpQ K (rBod 8)) := by
  exact bodies_all B T 8
end
end K34

set_option Elab.async false
set_option linter.all false
set_option maxRecDepth 100000
set_option maxHeartbeats 1000000
set_option exponentiation.threshold 20000
namespace K34
open PySem PySem.Spec PyProof.Rows L2 Yw
local macro_rules | `(tactic| walk_at "ye") => `(tactic| first
  | ((with_reducible show Ev _ (tVar _) _ _ _); first | refine ev_dat rfl ?_ | refine ev_ref rfl ?_ | refine ev_var rfl (fun z => nomatch z) ?_)
  | ((with_reducible show Ev _ (tC _) _ _ _); first | with_reducible refine ev_int ?_ | with_reducible refine ev_bl ?_ | with_reducible refine ev_non ?_ | with_reducible refine ev_str ?_ | with_reducible refine ev_ty ?_)
  | with_reducible refine ev_op ?_
  | with_reducible refine ev_un ?_
  | with_reducible refine ev_go ?_
  | with_reducible refine ev_cb ?_
  | with_reducible refine ev_tupD ?_
  | with_reducible refine ev_lstD ?_
  | with_reducible refine ev_chain ?_
  | with_reducible refine ev_if ?_
  | with_reducible refine ev_andV ?_
  | with_reducible refine ev_orV ?_
  | with_reducible refine ev_notV ?_
  | with_reducible refine ev_sl ?_
  | with_reducible refine ev_bm ?_)
local macro_rules | `(tactic| walk_at "ya") => `(tactic| first
  | with_reducible refine ea_cons ?_
  | with_reducible refine ea_nil ?_
  | with_reducible refine eo_none ?_
  | with_reducible refine eo_some ?_
  | with_reducible refine et_test ?_
  | with_reducible refine et_B ?_
  | with_reducible refine et_and ?_
  | with_reducible refine et_or ?_
  | with_reducible refine et_not ?_
  | with_reducible refine et_yes ?_
  | with_reducible refine tg_name ?_
  | with_reducible refine tgs_nil ?_
  | with_reducible refine tgs_cons ?_
  | ((with_reducible show Tg _ (gTup _ _ _) _ _ _ _); refine tg_tup rfl ?_)
  | with_reducible refine tg_sub ?_)
local macro_rules | `(tactic| walk_at "ys") => `(tactic| first
  | with_reducible refine sj_seq ?_
  | with_reducible refine sj_next ?_
  | with_reducible refine sj_newD ?_
  | with_reducible refine sj_set ?_
  | with_reducible refine sj_par ?_
  | with_reducible refine sj_ret ?_
  | with_reducible refine sj_drop ?_
  | with_reducible refine sj_if ?_
  | with_reducible refine sj_asg ?_
  | with_reducible refine sj_augS ?_
  | with_reducible refine iw_seq ?_
  | with_reducible refine iw_zip ?_
  | with_reducible refine iw_list ?_
  | with_reducible refine iw_tup ?_
  | with_reducible refine iw_r1 ?_
  | with_reducible refine iw_r2 ?_
  | with_reducible refine iw_enumT ?_)
local macro_rules | `(tactic| walk_at "yo") => `(tactic| first
  | with_reducible refine o_int ?_
  | with_reducible refine o_bool ?_
  | with_reducible refine o_mul (by first | exact mulR ⟨by decide, by decide⟩ | exact mulL ⟨by decide, by decide⟩) ?_
  | with_reducible refine o_mul ?_ ?_
  | with_reducible refine o_mod (by decide) ?_
  | with_reducible refine o_mod ?_ ?_
  | with_reducible refine o_div (by decide) (by decide +kernel) ?_
  | with_reducible refine o_cat ?_ ?_
  | with_reducible refine o_catT ?_ ?_
  | ((with_reducible show Op2 _ (rIxL _) (Ent.ref _) _ _ _); refine o_ixM (List.Mem.head _) rfl ?_)
  | with_reducible refine o_eqI ?_
  | with_reducible refine o_neI ?_
  | with_reducible refine o_eqS ?_
  | with_reducible refine o_neS ?_
  | with_reducible refine o_neg ?_
  | ((with_reducible show Op2 _ (rIxT _) _ _ _ _); refine o_ixT rfl ?_)
  | ((with_reducible show Op2 _ (rIxL _) (Ent.dat _) _ _ _); refine o_ixL rfl ?_)
  | ((with_reducible show Op2 _ (rI CPow _) _ _ _ _); refine o_pow ⟨by decide, by decide, by decide⟩ rfl ?_)
  | with_reducible refine c_abs ?_
  | with_reducible refine c_int ?_
  | with_reducible refine c_min2 ?_
  | with_reducible refine c_max2 ?_
  | with_reducible refine c_gcd ?_
  | with_reducible refine sl_L ?_
  | with_reducible refine c_len (.lst _) ?_
  | with_reducible refine c_len (.tup _) ?_)
local macro_rules | `(tactic| walk_at "yx") => `(tactic| first
  | with_reducible refine ⟨_, rfl, ?_⟩
  | with_reducible refine ⟨_, _, rfl, ?_⟩
  | with_reducible refine ⟨fun _ => ?_, fun _ => ?_⟩
  | ((with_reducible show ∃ _ _ _ _ _ _, _ = _ ∧ _ = _ ∧ _ = _ ∧ _ = _ ∧ _); refine ⟨[], _, _, _, _, _, rfl, rfl, rfl, rfl, ?_⟩)
  | ((with_reducible show ∃ _ _ _ _ _, _ = _ ∧ _ = _ ∧ _ ∧ _ ∧ _ ∧ _ = _ ∧ _ = _ ∧ _); refine ⟨_, _, _, _, _, rfl, rfl, List.Mem.head _, by decide, by decide, rfl, rfl, ?_⟩)
  | ((with_reducible show ∃ _ _ _, _ = _ ∧ _ = _ ∧ _); refine ⟨[], _, _, rfl, rfl, ?_⟩)
  | ((with_reducible show ∃ _, Ds _ _ ∧ _ ∧ _); refine ⟨_, (by repeat (first | exact Ds.nil | apply Ds.cons)), (by simp), ?_⟩))
local macro_rules | `(tactic| walk_at "yy") => `(tactic| first | walk_at "ye" | walk_at "ya" | walk_at "ys" | walk_at "yo" | walk_at "yx" | walk_at "yc")

local macro_rules | `(tactic| walk_at "yc") => `(tactic| first | with_reducible refine c_take ?_ ?_ ?_)
local macro_rules | `(tactic| walk_at "ys") => `(tactic| first | with_reducible refine sj_parM ?_)
/-! ### what is drawn: rides, shifts, clicks -/
def LD (D S : Int × Int) : Int := D.2 * (12 * S.2)
def drI (D S : Int × Int) : Int := D.1 * (12 * S.2)
def shI (D S : Int × Int) : Int := S.1 * (12 * D.2)
structure BK (c : Int) (D S : Int × Int) (lo most le : Nat) : Prop where
  d : PtQ 64 64 D
  s : PtQ 64 64 S
  B : Bq D S lo most le
  cb : Bd 420 c
  c1 : 1 ≤ c
  lo3 : lo ≤ 3
  m6 : most ≤ 6
  le3 : le ≤ 3
theorem LD_bd {c : Int} {D S : Int × Int} {lo most le : Nat} (h : BK c D S lo most le) : 12 ≤ LD D S ∧ LD D S ≤ 49152 := by
  have d1 := h.d.1.1
  have s1 := h.s.1.1
  have d2 := h.d.2.2.2
  have s2 := h.s.2.2.2
  have a := Int.mul_le_mul d2 (show 12 * S.2 ≤ 768 by omega) (by omega) (by decide)
  have b := Int.mul_le_mul (show (1 : Int) ≤ D.2 by omega) (show 12 ≤ 12 * S.2 by omega) (by decide) (by omega)
  unfold LD
  omega
theorem szLD {c : Int} {D S : Int × Int} {lo most le : Nat} (h : BK c D S lo most le) : Sz (LD D S) := by
  obtain ⟨a, b⟩ := LD_bd h
  exact ⟨by omega, Bd.up (j := 20) (by show (LD D S).natAbs < 2 ^ 20; omega) (by decide)⟩
theorem drI_bd {c : Int} {D S : Int × Int} {lo most le : Nat} (h : BK c D S lo most le) : 0 ≤ drI D S ∧ drI D S ≤ 49152 := by
  have s1 := h.s.1.1
  have a := Int.mul_le_mul h.d.2.2.1 (show 12 * S.2 ≤ 768 by have := h.s.2.2.2; omega) (by omega) (by decide)
  have b := Int.mul_nonneg h.d.2.1 (show 0 ≤ 12 * S.2 by omega)
  unfold drI
  omega
theorem shI_bd {c : Int} {D S : Int × Int} {lo most le : Nat} (h : BK c D S lo most le) : 0 ≤ shI D S ∧ shI D S ≤ 49152 := by
  have s1 := h.d.1.1
  have a := Int.mul_le_mul h.s.2.2.1 (show 12 * D.2 ≤ 768 by have := h.d.2.2.2; omega) (by omega) (by decide)
  have b := Int.mul_nonneg h.s.2.1 (show 0 ≤ 12 * D.2 by omega)
  unfold shI
  omega
theorem LD_S (D S : Int × Int) : LD D S = S.2 * (12 * D.2) := by
  unfold LD
  grind
theorem qD {c : Int} {D S : Int × Int} {lo most le : Nat} (h : BK c D S lo most le) : frq D = frq (qv (LD D S) (drI D S)) := congrArg frq (qv_mk (x := D.1) (y := D.2) (szLD h).p h.d.1 rfl)
theorem qS {c : Int} {D S : Int × Int} {lo most le : Nat} (h : BK c D S lo most le) : frq S = frq (qv (LD D S) (shI D S)) := congrArg frq (qv_mk (x := S.1) (y := S.2) (szLD h).p h.s.1 (LD_S D S))
theorem qDm {c : Int} {D S : Int × Int} {lo most le : Nat} (h : BK c D S lo most le) : frq (qmany D (-1)) = frq (qv (LD D S) (-(drI D S))) := by
  have e := qv_red (L := LD D S) (n := D.1 * (-1)) (d := D.2) (e := 12 * S.2) (szLD h).p (by have := h.d.1.1; omega) rfl
  rw [show D.1 * (-1) * (12 * S.2) = -(drI D S) by unfold drI; grind] at e
  exact congrArg frq e
theorem qSm {c : Int} {D S : Int × Int} {lo most le : Nat} (h : BK c D S lo most le) : frq (qmany S (-1)) = frq (qv (LD D S) (-(shI D S))) := by
  have e := qv_red (L := LD D S) (n := S.1 * (-1)) (d := S.2) (e := 12 * D.2) (szLD h).p (by have := h.s.1.1; omega) (LD_S D S)
  rw [show S.1 * (-1) * (12 * D.2) = -(shI D S) by unfold shI; grind] at e
  exact congrArg frq e
/-- a part of the drift or of the shift, over the one divisor -/
theorem qPart {L n d e : Int} (z : Sz L) (hd : 0 < d) (he : L = d * e) : PyData.tuple [.int (redN n d), .int (redD n d)] = frq (qv L (n * e)) := congrArg frq (qv_red z.p (by omega) he)
theorem qLit {L x y e : Int} (z : Sz L) (f : Fr x y) (he : L = y * e) : PyData.tuple [.int x, .int y] = frq (qv L (x * e)) := congrArg frq (qv_mk z.p f he)
theorem at3 {a b c : PyData} {i : Int} (h : i = 0 ∨ i = 1 ∨ i = 2) : ∃ x, atI [a, b, c] i = some x ∧ (x = a ∨ x = b ∨ x = c) := by
  rcases h with rfl | rfl | rfl
  · exact ⟨a, atI_nat (j := 0) rfl, .inl rfl⟩
  · exact ⟨b, atI_nat (j := 1) rfl, .inr (.inl rfl)⟩
  · exact ⟨c, atI_nat (j := 2) rfl, .inr (.inr rfl)⟩
def rRideD : RR := fun ds po => ∃ c D S lo most le, ∃ n : Nat, ds = [bdQ c D S lo most le, .int (n : Int)] ∧ BK c D S lo most le ∧ n ≤ 60 ∧ po = fun r => ∃ ms, r = .tuple (qs (LD D S) ms) ∧ ms.length = n ∧ ∀ x ∈ ms, Bd 450 x
def rTelD : RR := fun ds po => ∃ c D S lo most le, ∃ n : Nat, ds = [bdQ c D S lo most le, .int (n : Int)] ∧ BK c D S lo most le ∧ n ≤ 60 ∧ po = fun r => ∃ m ms, r = telD (LD D S) m ms ∧ Bd 450 m ∧ ms.length = n ∧ ∀ x ∈ ms, Bd 450 x
def rShiftD : RR := fun ds po => ∃ c D S lo most le, ∃ n : Nat, ds = [bdQ c D S lo most le, .int (n : Int)] ∧ BK c D S lo most le ∧ n ≤ 100 ∧ po = fun r => ∃ ss, r = .tuple (qs (LD D S) ss) ∧ ss.length = n ∧ ∀ x ∈ ss, Bd 450 x
def rClicks : RR := fun ds po => ∃ c D S lo most le, ∃ hs : List Int, ds = [.tuple (qs (LD D S) hs)] ∧ BK c D S lo most le ∧ hs ≠ [] ∧ hs.length ≤ 100 ∧ (∀ x ∈ hs, Bd 725 x) ∧ po = fun r => ∃ ws, r = .tuple (qs (LD D S) ws) ∧ ws.length ≤ 3 ∧ Asc ws ∧ ∀ x ∈ ws, Bd 728 x
theorem shaped_qsL {L : Int} {ms : List Int} (z : Sz L) (h : ∀ m ∈ ms, Bd 900 m) (hl : ms.length ≤ 1000) : SeqAt.shaped (.list (qs L ms)) = true :=
  (Wt.list (w := 3849) (dp := 1) (n := 1000) (fun d hd => by
    obtain ⟨q, hq, rfl⟩ := List.mem_map.mp (show d ∈ (ms.map (qv L)).map frq from hd)
    obtain ⟨m, hm, rfl⟩ := List.mem_map.mp hq
    exact wt_qv z (h m hm)) (by rw [qs_len]; exact hl)).shaped (by decide)
theorem ride_bd {c L x : Int} {k : Nat} (hc : Bd 420 c) (c1 : 1 ≤ c) (L0 : 12 ≤ L) (L1 : L ≤ 49152) (h0 : 0 ≤ x) (h1 : x ≤ c * L + 200000 + k * 50000) (hk : k ≤ 100) : Bd 450 x := by
  have a := Int.mul_le_mul_of_nonneg_left L1 (show 0 ≤ c by omega)
  have cb : c.natAbs < 2 ^ 420 := hc
  show x.natAbs < 2 ^ 450
  have e : 2 ^ 450 = 1073741824 * 2 ^ 420 := by rw [← show 2 ^ 30 * 2 ^ 420 = 2 ^ 450 from (Nat.pow_add 2 30 420).symm]
  have p : 1048576 ≤ 2 ^ 420 := by
    have : 2 ^ 20 ≤ 2 ^ 420 := Nat.pow_le_pow_right (by decide) (by decide)
    exact this
  rw [e]
  generalize 2 ^ 420 = y at *
  omega
section
variable {P : Program} {w : World} {K : PySem.W.Frag} {mg : Str → Option Value} {base : Heap}
theorem ok_l_ride (B : Bt mg) (D_l_some : Has P w K mg base 2 "_law_some" ["bag", "things"] (SpD K rSome)) (D_l_part : Has P w K mg base 2 "_law_part" ["n", "d"] (SpQ K rPart)) (D_l_add : Has P w K mg base 3 "_law_add" ["one", "other"] (SpQ K rAdd)) (D_l_many : Has P w K mg base 3 "_law_many" ["one", "many"] (SpQ K rManyL)) (D_l_take : Has P w K mg base 1 "_law_take" ["bag", "many"] (SpD K rTake)) (D_l_is_below : Has P w K mg base 1 "_law_is_below" ["one", "other"] (SpQ K rBelow)) (T : Stands K mg "_law_ride" s_l_ride ["bag", "bounds", "cells"]) : Has P w K mg base 4 "_law_ride" ["bag", "bounds", "cells"] (SpD K rRideD) := by
  refine hasD T sc_l_ride (fun ds po ⟨c, D, S, lo, most, le, n, e, _⟩ => by rw [e]; rfl) 7 rfl fun f cdv A outer s H E g hr => ⟨_, (pss_cons (ps_par (i := 3) (j := 4) (by rfl) sc_l_ride.nd rfl rfl (by decide) rfl rfl (pa_cons (pe_lst pa_nil) (pa_cons (peD D_l_some g hr (by first | decide | exact Nat.le_refl _ | omega) (by rfl) (pa_cons (pv 0) (pa_cons (pe_lst (pa_cons pe_int (pa_cons pe_int (pa_cons pe_int pa_nil)))) pa_nil))) pa_nil)) (by rfl))
      (pss_cons (ps_for PassesOwn.never rfl (pi_range1 (by rfl) B.b_range (pa_cons (pv 2) pa_nil)) (pg_name (i := 5) sc_l_ride.nd rfl (by first | exact .inl rfl | exact .inr rfl)) (pss_cons (ps_set (i := 6) sc_l_ride.nd rfl (by first | exact .inl rfl | exact .inr rfl) (pe_ifExp (pt_cmpR (op_neD hr.units) (pv 3) (pe_lst pa_nil) (nomark _)) (pe_ix ix_list (pv 3) (pe_un un_neg pe_int) (fun _ _ => rfl)) (pe_tup (pa_cons (pe_op op_add (pe_ix ix_tup (pv 1) pe_int (fun _ _ => rfl)) (peD D_l_some g hr (by first | decide | exact Nat.le_refl _ | omega) (by rfl) (pa_cons (pv 0) (pa_cons (pe_lst (pa_cons pe_int (pa_cons pe_int (pa_cons pe_int pa_nil)))) pa_nil)))) (pa_cons pe_int pa_nil)))))
      (pss_cons (ps_set (i := 7) sc_l_ride.nd rfl (by first | exact .inl rfl | exact .inr rfl) (peD D_l_part g hr (by first | decide | exact Nat.le_refl _ | omega) (by rfl) (pa_cons (pe_ix ix_tup (pe_ix ix_tup (pv 1) pe_int (fun _ _ => rfl)) pe_int (fun _ _ => rfl)) (pa_cons (pe_op op_mulA (pe_ix ix_tup (pe_ix ix_tup (pv 1) pe_int (fun _ _ => rfl)) pe_int (fun _ _ => rfl)) pe_int) pa_nil))))
      (pss_cons (ps_set (i := 8) sc_l_ride.nd rfl (by first | exact .inl rfl | exact .inr rfl) (peD D_l_some g hr (by first | decide | exact Nat.le_refl _ | omega) (by rfl) (pa_cons (pv 0) (pa_cons (pe_lst (pa_cons (pe_tup (pa_cons pe_int (pa_cons pe_int pa_nil))) (pa_cons (pe_ix ix_tup (pv 1) pe_int (fun _ _ => rfl)) (pa_cons (peD D_l_many g hr (by first | decide | exact Nat.le_refl _ | omega) (by rfl) (pa_cons (pe_ix ix_tup (pv 1) pe_int (fun _ _ => rfl)) (pa_cons (pe_un un_neg pe_int) pa_nil))) (pa_cons (pv 7) pa_nil))))) pa_nil))))
      (pss_cons (ps_set (i := 8) sc_l_ride.nd rfl (by first | exact .inl rfl | exact .inr rfl) (pe_ix ix_list (pe_lst (pa_cons (pv 8) (pa_cons (pe_ix ix_tup (pv 1) pe_int (fun _ _ => rfl)) (pa_cons (peD D_l_many g hr (by first | decide | exact Nat.le_refl _ | omega) (by rfl) (pa_cons (pe_ix ix_tup (pv 1) pe_int (fun _ _ => rfl)) (pa_cons (pe_un un_neg pe_int) pa_nil))) pa_nil)))) (pe_ifExp (pt_cmpR op_gt (peD D_l_take g hr (by first | decide | exact Nat.le_refl _ | omega) (by rfl) (pa_cons (pv 0) (pa_cons pe_int pa_nil))) pe_int (nomark _)) (pv 4) pe_int) (fun _ _ => rfl)))
      (pss_cons (ps_set (i := 9) sc_l_ride.nd rfl (by first | exact .inl rfl | exact .inr rfl) (pe_ifExp (pt_cmpR (op_neD hr.units) (pv 3) (pe_lst pa_nil) (nomark _)) (peD D_l_add g hr (by first | decide | exact Nat.le_refl _ | omega) (by rfl) (pa_cons (pv 6) (pa_cons (pv 8) pa_nil))) (pv 6)))
      (pss_one (ps_expr (pe_bm PySem.F.plainAttrs_list PySem.F.slot_list_append PySem.F.type_list_append mt_append (pv 3) (pa_cons (pe_ifExp (pt_not (pt_val (peD D_l_is_below g hr (by first | decide | exact Nat.le_refl _ | omega) (by rfl) (pa_cons (pv 9) (pa_cons (pe_tup (pa_cons (pe_ix ix_tup (pv 1) pe_int (fun _ _ => rfl)) (pa_cons pe_int pa_nil))) pa_nil))))) (pv 9) (pe_tup (pa_cons (pe_ix ix_tup (pv 1) pe_int (fun _ _ => rfl)) (pa_cons pe_int pa_nil)))) pa_nil))))))))))
      (pss_one (ps_ret (pe_callTy call_tuple_of (by rfl) B.b_tuple (by decide +kernel) (pa_cons (pv 3) pa_nil)))))), ?_⟩
  try dsimp only [cxOf]
  rintro b C ds po ⟨c, D, S, lo, most, le, n, rfl, hk, hn, rfl⟩
  have z := szLD hk
  obtain ⟨L0, L1⟩ := LD_bd hk
  obtain ⟨d0, d1⟩ := drI_bd hk
  have c1 := hk.c1
  have cL : 12 ≤ c * LD D S := by
    have := Int.mul_le_mul (show (1 : Int) ≤ c by omega) L0 (by decide) (by omega)
    omega
  repeat' walk_at "yy"
  intro p hp
  rw [show ([(b, MO.lst (Bag.ds C))] ++ [(p, MO.lst [])] : MM) = [(b, MO.lst (Bag.ds C)), (p, MO.lst [])] from rfl]
  repeat' walk_at "yy"
  refine c_some (by simp) (by simp) fun d C1 hd => ?_
  obtain ⟨way, rfl, hway⟩ : ∃ x : Int, d = .int x ∧ (x = 0 ∨ x = 1 ∨ x = 2) := by
    simp only [List.mem_cons, List.not_mem_nil, or_false] at hd
    rcases hd with h | h | h
    · exact ⟨0, h, .inl rfl⟩
    · exact ⟨1, h, .inr (.inl rfl)⟩
    · exact ⟨2, h, .inr (.inr rfl)⟩
  clear hd
  repeat' walk_at "yy"
  refine sj_for ?_
  repeat' walk_at "yy"
  refine ⟨by omega, ?_⟩
  refine ⟨fun k es M => ∃ (C : Bag) (ms : List Int) (e5 e6 e7 e8 e9 : Ent), es = [.ref b, .dat (bdQ c D S lo most le), .dat (.int (n : Int)), .ref p, .dat (.int way), e5, e6, e7, e8, e9] ∧ M = [(b, .lst (Bag.ds C)), (p, .lst (qs (LD D S) ms))] ∧ ms.length = k ∧ ∀ x ∈ ms, 0 ≤ x ∧ x ≤ c * LD D S + 200000 + (k : Int) * 50000, ⟨C1, [], .no, .no, .no, .no, .no, rfl, rfl, rfl, fun x hx => nomatch hx⟩, ?_, ?_⟩
  · rintro k d es M hd ⟨C2, ms, e5, e6, e7, e8, e9, rfl, rfl, hl, hb⟩
    obtain ⟨hkn, rfl⟩ := rgD_at hd
    have hkn : k < n := by omega
    have msb : ∀ x ∈ ms, Bd 450 x := fun x hx => ride_bd hk.cb c1 L0 L1 (hb x hx).1 (hb x hx).2 (by omega)
    have shp := shaped_qsL z (fun x hx => (msb x hx).up (by decide)) (show ms.length ≤ 1000 by omega)
    refine tg_name ?_
    refine sj_seq ?_
    refine sj_set ?_
    refine Ev.imp (P := fun e M => ∃ (a : Int) (C' : Bag), e = .dat (frq (qv (LD D S) a)) ∧ 0 ≤ a ∧ a ≤ c * LD D S + 200000 + (k : Int) * 50000 ∧ M = [(b, MO.lst (Bag.ds C')), (p, MO.lst (qs (LD D S) ms))]) ?_ ?_
    · refine ev_if ?_
      refine et_lend (List.Mem.tail _ (List.Mem.head _)) (.keep (.keep (.keep (.hit (.keep (.keep (.keep (.keep (.keep (.keep .nil)))))))))) ?_
      repeat' walk_at "yy"
      refine o_neD shp shaped_nil ?_
      rw [eqv_nil]
      cases hg : ms.getLast? with
      | none =>
        obtain rfl : ms = [] := List.getLast?_eq_none_iff.mp hg
        repeat' (first | exact absurd ‹(!decide (qs (LD D S) [] = [])) = true› (by simp [qs]) | walk_at "yy")
        refine c_some (by simp) (by simp) fun d C3 hd => ?_
        obtain ⟨x, rfl, x0, x1⟩ : ∃ x : Int, d = .int x ∧ 0 ≤ x ∧ x ≤ 3 := by
          simp only [List.mem_cons, List.not_mem_nil, or_false] at hd
          rcases hd with h | h | h
          all_goals exact ⟨_, h, by decide, by decide⟩
        clear hd
        repeat' walk_at "yy"
        have e1 : (c + x) * LD D S = c * LD D S + x * LD D S := Int.add_mul _ _ _
        have e2 := Int.mul_le_mul x1 L1 (by omega) (by decide)
        have e3 := Int.mul_nonneg x0 (show 0 ≤ LD D S by omega)
        exact ⟨(c + x) * LD D S, C3, congrArg Ent.dat (frq_int z _), by omega, by omega, rfl⟩
      | some x =>
        obtain ⟨i, hi⟩ : ∃ i, ms = i ++ [x] := by
          rcases List.eq_nil_or_concat ms with rfl | ⟨i, y, hy⟩
          · cases hg
          · rw [List.concat_eq_append] at hy
            rw [hy, List.getLast?_append] at hg
            simp at hg
            exact ⟨i, by rw [hy, hg]⟩
        have hxm : x ∈ ms := by rw [hi]; simp
        have aL : atI (qs (LD D S) ms) (-1) = some (frq (qv (LD D S) x)) := by
          rw [hi, qs_app]
          exact atI_last _ _
        have ne : decide (qs (LD D S) ms = []) = false := decide_eq_false (by rw [hi, qs_app]; simp [qs])
        repeat' (first | exact absurd ‹(!decide (qs (LD D S) ms = [])) = false› (by rw [ne]; decide) | refine o_ixM (List.Mem.tail _ (List.Mem.head _)) aL ?_ | walk_at "yy")
        exact ⟨x, C2, rfl, (hb x hxm).1, (hb x hxm).2, rfl⟩
    rintro _ _ ⟨a, C3, rfl, a0, a1, rfl⟩
    have ab : Bd 450 a := ride_bd hk.cb c1 L0 L1 a0 a1 (by omega)
    have dn := hk.B.d.n
    have dd := hk.B.d.d
    have bm1 : Bd 100 (-1 : Int) := Bd.up (j := 2) (by show _ < _; decide) (by decide)
    have d2 : Bd 100 (D.2 * 2) := (dd.mul (b := 2) (k := 3) (by show _ < _; decide)).up (by decide)
    have ok2 : IntMulOk D.2 2 := Bd.ok dd (k := 3) (b := 2) (by show _ < _; decide) (by decide) (by decide) (by decide)
    have hh := qPart (n := D.1) (d := D.2 * 2) (e := 6 * S.2) z (by have := hk.d.1.1; omega) (by unfold LD; grind)
    repeat' (first | refine o_mul ok2 ?_ | walk_at "yy")
    refine c_part (by have := hk.d.1.1; omega) (dn.up (by decide)) (d2.up (by decide)) ?_
    have hfv : (D.1 * (6 * S.2)).natAbs ≤ 49152 := by
      have : drI D S = 2 * (D.1 * (6 * S.2)) := by unfold drI; grind
      omega
    refine sj_seq ?_
    refine sj_set ?_
    refine Ev.imp (P := fun e M => ∃ (q : Int) (C' : Bag), e = .dat (frq (qv (LD D S) q)) ∧ q.natAbs ≤ 49152 ∧ M = [(b, MO.lst (Bag.ds C')), (p, MO.lst (qs (LD D S) ms))]) ?_ ?_
    · repeat' (first | refine c_manyL (hk.B.d.up (by decide)) (bm1.up (by decide)) ?_ | walk_at "yy")
      refine c_some (by simp) (by simp) fun d C4 hd => ?_
      simp only [List.mem_cons, List.not_mem_nil, or_false] at hd
      rcases hd with h | h | h | h
      · exact ⟨0, C4, congrArg Ent.dat (h.trans (by rw [frq_int z 0, Int.zero_mul])), by decide, rfl⟩
      · exact ⟨_, C4, congrArg Ent.dat (h.trans (qD hk)), by omega, rfl⟩
      · exact ⟨_, C4, congrArg Ent.dat (h.trans (qDm hk)), by omega, rfl⟩
      · exact ⟨_, C4, congrArg Ent.dat (h.trans hh), hfv, rfl⟩
    rintro _ _ ⟨q, C4, rfl, hq, rfl⟩
    refine sj_seq ?_
    refine sj_set ?_
    refine Ev.imp (P := fun e M => ∃ (q : Int) (C' : Bag), e = .dat (frq (qv (LD D S) q)) ∧ q.natAbs ≤ 49152 ∧ M = [(b, MO.lst (Bag.ds C')), (p, MO.lst (qs (LD D S) ms))]) ?_ ?_
    · have pick : ∀ i : Int, (i = 0 ∨ i = 1 ∨ i = 2) → ∃ r : Int, atI [frq (qv (LD D S) q), frq D, frq (qmany D (-1))] i = some (frq (qv (LD D S) r)) ∧ r.natAbs ≤ 49152 := fun i hi => by
        obtain ⟨x, e, hx⟩ := at3 (a := frq (qv (LD D S) q)) (b := frq D) (c := frq (qmany D (-1))) hi
        rw [e]
        rcases hx with rfl | rfl | rfl
        · exact ⟨q, rfl, hq⟩
        · exact ⟨_, congrArg some (qD hk), by omega⟩
        · exact ⟨_, congrArg some (qDm hk), by omega⟩
      obtain ⟨r1, a1, b1⟩ := pick way hway
      obtain ⟨r0, a0, b0⟩ := pick 0 (.inl rfl)
      repeat' (first | refine c_manyL (hk.B.d.up (by decide)) (bm1.up (by decide)) ?_ | refine o_ixL a1 ?_ | refine o_ixL a0 ?_ | walk_at "yy")
      · decide
      · show _ < _; decide
      intro v C6 v0 v1
      repeat' (first | refine o_ixL a1 ?_ | refine o_ixL a0 ?_ | walk_at "yy")
      · exact ⟨r1, C6, rfl, b1, rfl⟩
      · exact ⟨r0, C6, rfl, b0, rfl⟩
    rintro _ _ ⟨r, C5, rfl, hr, rfl⟩
    refine sj_seq ?_
    refine sj_set ?_
    refine Ev.imp (P := fun e M => ∃ x : Int, e = .dat (frq (qv (LD D S) x)) ∧ -49152 ≤ x ∧ x ≤ c * LD D S + 200000 + ((k : Int) + 1) * 50000 ∧ M = [(b, MO.lst (Bag.ds C5)), (p, MO.lst (qs (LD D S) ms))]) ?_ ?_
    · refine ev_if ?_
      refine et_lend (List.Mem.tail _ (List.Mem.head _)) (.keep (.keep (.keep (.hit (.keep (.keep (.keep (.keep (.keep (.keep .nil)))))))))) ?_
      repeat' walk_at "yy"
      refine o_neD shp shaped_nil ?_
      rw [eqv_nil]
      repeat' (first | refine c_addLV z (ab.up (by decide)) (Bd.up (j := 20) (by show r.natAbs < 2 ^ 20; omega) (by decide)) ?_ | walk_at "yy")
      · exact ⟨by omega, by omega, rfl⟩
      · exact ⟨by omega, by omega, rfl⟩
    rintro _ _ ⟨x, rfl, x0, x1, rfl⟩
    have xb : Bd 450 x := by
      by_cases y : 0 ≤ x
      · exact ride_bd (k := k + 1) hk.cb c1 L0 L1 y (by omega) (by omega)
      · exact Bd.up (j := 20) (by show x.natAbs < 2 ^ 20; omega) (by decide)
    have cb : Bd 450 (c * LD D S) := ride_bd (k := 0) hk.cb c1 L0 L1 (by omega) (by omega) (by omega)
    repeat' walk_at "yy"
    refine ⟨ty_ref (List.Mem.tail _ (List.Mem.head _)), ?_⟩
    repeat' walk_at "yy"
    rw [frq_int z]
    refine c_belowV z (xb.up (by decide)) (cb.up (by decide)) ?_
    repeat' walk_at "yy"
    · refine m_append (Ma := [_]) (Mb := []) rfl (by rw [qs_len]; omega) ?_
      have hx : ¬ x < c * LD D S := of_decide_eq_false (by simpa using ‹(!decide (x < c * LD D S)) = true›)
      refine ⟨C5, ms ++ [x], _, _, _, _, _, rfl, by rw [qs_app]; rfl, by rw [List.length_append, hl]; rfl, fun y hy => ?_⟩
      rcases List.mem_append.mp hy with hy | hy
      · have := hb y hy
        rw [Int.natCast_add]
        omega
      · rw [List.mem_singleton.mp hy, Int.natCast_add]
        omega
    · rw [frq_int z]
      refine m_append (Ma := [_]) (Mb := []) rfl (by rw [qs_len]; omega) ?_
      refine ⟨C5, ms ++ [c * LD D S], _, _, _, _, _, rfl, by rw [qs_app]; rfl, by rw [List.length_append, hl]; rfl, fun y hy => ?_⟩
      rcases List.mem_append.mp hy with hy | hy
      · have := hb y hy
        rw [Int.natCast_add]
        omega
      · rw [List.mem_singleton.mp hy, Int.natCast_add]
        omega
  · rintro es M ⟨C2, ms, e5, e6, e7, e8, e9, rfl, rfl, hl, hb⟩
    refine sj_fast [(b, .lst (Bag.ds C2))] [] rfl hp (.keep (.keep (.keep (.hit (.keep (.keep (.keep (.keep (.keep (.keep .nil)))))))))) ?_
    repeat' walk_at "yy"
    refine c_tuple (.lst _) ?_
    repeat' walk_at "yy"
    rw [rgD_len] at hl hb
    exact ⟨⟨C2, [], rfl⟩, ms, rfl, by omega, fun x hx => ride_bd hk.cb c1 L0 L1 (hb x hx).1 (hb x hx).2 (by omega)⟩
theorem ok_l_telling (B : Bt mg) (D_l_some : Has P w K mg base 2 "_law_some" ["bag", "things"] (SpD K rSome)) (D_l_ride : Has P w K mg base 4 "_law_ride" ["bag", "bounds", "cells"] (SpD K rRideD)) (T : Stands K mg "_law_telling" s_l_telling ["bag", "bounds", "cells"]) : Has P w K mg base 5 "_law_telling" ["bag", "bounds", "cells"] (SpD K rTelD) := by
  refine hasD T sc_l_telling (fun ds po ⟨c, D, S, lo, most, le, n, e, _⟩ => by rw [e]; rfl) 0 rfl fun f cdv A outer s H E g hr => ⟨_, (pss_one (ps_ret (pe_tup (pa_cons (peD D_l_some g hr (by first | decide | exact Nat.le_refl _ | omega) (by rfl) (pa_cons (pv 0) (pa_cons (pe_lst (pa_cons (pe_tup (pa_cons pe_int (pa_cons pe_int pa_nil))) (pa_cons (pe_tup (pa_cons pe_int (pa_cons pe_int pa_nil))) (pa_cons (pe_tup (pa_cons (pe_un un_neg pe_int) (pa_cons pe_int pa_nil))) pa_nil)))) pa_nil))) (pa_cons (peD D_l_ride g hr (by first | decide | exact Nat.le_refl _ | omega) (by rfl) (pa_cons (pv 0) (pa_cons (pv 1) (pa_cons (pv 2) pa_nil)))) pa_nil))))), ?_⟩
  try dsimp only [cxOf]
  rintro b C ds po ⟨c, D, S, lo, most, le, n, rfl, hk, hn, rfl⟩
  have z := szLD hk
  obtain ⟨L0, L1⟩ := LD_bd hk
  repeat' walk_at "yy"
  refine c_some (by simp) (by simp) fun d C1 hd => ?_
  obtain ⟨m, rfl, hm⟩ : ∃ m, d = frq (qv (LD D S) m) ∧ Bd 450 m := by
    have sm : ∀ y : Int, y.natAbs ≤ 1000000 → Bd 450 y := fun y hy => Bd.up (j := 30) (by show y.natAbs < 2 ^ 30; omega) (by decide)
    simp only [List.mem_cons, List.not_mem_nil, or_false] at hd
    rcases hd with h | h | h
    · exact ⟨_, h.trans (frq_int z 0), by rw [Int.zero_mul]; exact sm 0 (by decide)⟩
    · refine ⟨_, h.trans (qLit (x := 7) (y := 2) (e := D.2 * (6 * S.2)) z ⟨by decide, by decide⟩ (by unfold LD; grind)), sm _ ?_⟩
      have : LD D S = 2 * (D.2 * (6 * S.2)) := by unfold LD; grind
      omega
    · exact ⟨_, h.trans (frq_int z (-3)), sm _ (by omega)⟩
  clear hd
  repeat' walk_at "yy"
  refine c_D (.cons (.cons .nil)) _ ⟨c, D, S, lo, most, le, n, rfl, hk, hn, rfl⟩ fun y C2 ⟨ms, hy, hl, hb⟩ => ?_
  subst hy
  repeat' walk_at "yy"
  exact ⟨⟨C2, [], rfl⟩, m, ms, rfl, hm, hl, hb⟩
theorem ok_l_shifts (B : Bt mg) (D_l_many : Has P w K mg base 3 "_law_many" ["one", "many"] (SpQ K rManyL)) (D_l_part : Has P w K mg base 2 "_law_part" ["n", "d"] (SpQ K rPart)) (D_l_some : Has P w K mg base 2 "_law_some" ["bag", "things"] (SpD K rSome)) (T : Stands K mg "_law_shifts" s_l_shifts ["bag", "bounds", "marks"]) : Has P w K mg base 4 "_law_shifts" ["bag", "bounds", "marks"] (SpD K rShiftD) := by
  refine hasD T sc_l_shifts (fun ds po ⟨c, D, S, lo, most, le, n, e, _⟩ => by rw [e]; rfl) 3 rfl fun f cdv A outer s H E g hr => ⟨_, (pss_cons (ps_set (i := 3) sc_l_shifts.nd rfl (by first | exact .inl rfl | exact .inr rfl) (pe_ix ix_tup (pv 1) pe_int (fun _ _ => rfl)))
      (pss_cons (ps_set (i := 4) sc_l_shifts.nd rfl (by first | exact .inl rfl | exact .inr rfl) (pe_lst (pa_cons (pe_tup (pa_cons pe_int (pa_cons pe_int pa_nil))) (pa_cons (pv 3) (pa_cons (peD D_l_many g hr (by first | decide | exact Nat.le_refl _ | omega) (by rfl) (pa_cons (pv 3) (pa_cons (pe_un un_neg pe_int) pa_nil))) (pa_cons (peD D_l_part g hr (by first | decide | exact Nat.le_refl _ | omega) (by rfl) (pa_cons (pe_ix ix_tup (pv 3) pe_int (fun _ _ => rfl)) (pa_cons (pe_op op_mulA (pe_ix ix_tup (pv 3) pe_int (fun _ _ => rfl)) pe_int) pa_nil))) pa_nil))))))
      (pss_cons (ps_expr (pe_bm PySem.F.plainAttrs_list PySem.F.slot_list_append PySem.F.type_list_append mt_append (pv 4) (pa_cons (peD D_l_part g hr (by first | decide | exact Nat.le_refl _ | omega) (by rfl) (pa_cons (pe_un un_neg (pe_ix ix_tup (pv 3) pe_int (fun _ _ => rfl))) (pa_cons (pe_op op_mulA (pe_ix ix_tup (pv 3) pe_int (fun _ _ => rfl)) pe_int) pa_nil))) pa_nil)))
      (pss_one (ps_ret (pe_callTy call_tuple_of (by rfl) B.b_tuple (by decide +kernel) (pa_cons (pe_lc (own := [("mark", 5)]) (g := gName 5) (tt := tYes) rfl sc_l_shifts.nd (pi_range1 (by rfl) B.b_range (pa_cons (pv 2) pa_nil)) (blkOk_by (N := N_l_shifts) (sc := defScope s_l_shifts) (by decide +kernel)) (fun _ _ _ _ _ => (pg_name (i := 5) sc_l_shifts.nd rfl (by first | exact .inl rfl | exact .inr rfl))) (fun _ _ _ _ _ => pts_nil) (fun _ _ _ _ _ => (peD D_l_some g hr (by first | decide | exact Nat.le_refl _ | omega) (by rfl) (pa_cons (pv 0) (pa_cons (pv 4) pa_nil))))) pa_nil))))))), ?_⟩
  try dsimp only [cxOf]
  rintro b C ds po ⟨c, D, S, lo, most, le, n, rfl, hk, hn, rfl⟩
  have z := szLD hk
  have sn := hk.B.s.n
  have sd := hk.B.s.d
  have bm1 : Bd 100 (-1 : Int) := Bd.up (j := 2) (by show _ < _; decide) (by decide)
  have d2 : Bd 100 (S.2 * 2) := (sd.mul (b := 2) (k := 3) (by show _ < _; decide)).up (by decide)
  have d3 : Bd 100 (S.2 * 3) := (sd.mul (b := 3) (k := 3) (by show _ < _; decide)).up (by decide)
  have ok2 : IntMulOk S.2 2 := Bd.ok sd (k := 3) (b := 2) (by show _ < _; decide) (by decide) (by decide) (by decide)
  have ok3 : IntMulOk S.2 3 := Bd.ok sd (k := 3) (b := 3) (by show _ < _; decide) (by decide) (by decide) (by decide)
  have s1 := hk.s.1.1
  obtain ⟨h0, h1⟩ := shI_bd hk
  have p2 := qPart (n := S.1) (d := S.2 * 2) (e := 6 * D.2) z (by omega) (by unfold LD; grind)
  have p3 := qPart (n := -S.1) (d := S.2 * 3) (e := 4 * D.2) z (by omega) (by unfold LD; grind)
  have v2 : (S.1 * (6 * D.2)).natAbs ≤ 49152 := by
    have : shI D S = 2 * (S.1 * (6 * D.2)) := by unfold shI; grind
    omega
  have v3 : (-S.1 * (4 * D.2)).natAbs ≤ 49152 := by
    have : shI D S = -3 * (-S.1 * (4 * D.2)) := by unfold shI; grind
    omega
  repeat' (first | refine o_mul ok2 ?_ | refine o_mul ok3 ?_ | refine c_manyL (hk.B.s.up (by decide)) (bm1.up (by decide)) ?_ | refine c_part (by omega) (sn.up (by decide)) (d2.up (by decide)) ?_ | refine c_part (by omega) (sn.neg.up (by decide)) (d3.up (by decide)) ?_ | walk_at "yy")
  intro p hp
  rw [show ([(b, MO.lst (Bag.ds C))] ++ [(p, MO.lst [PyData.tuple [.int 0, .int 1], frq S, frq (qmany S (-1)), PyData.tuple [.int (redN S.1 (S.2 * 2)), .int (redD S.1 (S.2 * 2))]])] : MM) = [(b, MO.lst (Bag.ds C)), (p, MO.lst [PyData.tuple [.int 0, .int 1], frq S, frq (qmany S (-1)), PyData.tuple [.int (redN S.1 (S.2 * 2)), .int (redD S.1 (S.2 * 2))]])] from rfl]
  repeat' walk_at "yy"
  refine ⟨ty_ref (List.Mem.tail _ (List.Mem.head _)), ?_⟩
  repeat' (first | refine o_mul ok3 ?_ | refine c_part (by omega) (sn.neg.up (by decide)) (d3.up (by decide)) ?_ | walk_at "yy")
  refine m_append (Ma := [_]) (Mb := []) rfl (by simp) ?_
  refine sj_fast [(b, .lst (Bag.ds C))] [] rfl hp (.keep (.keep (.keep (.keep (.hit (.keep .nil)))))) ?_
  repeat' walk_at "yy"
  refine ev_lc (own_name (by decide)) ?_
  repeat' walk_at "yy"
  refine ⟨by omega, ?_⟩
  refine ⟨fun k acc M => ∃ (C' : Bag) (ss : List Int), acc = qs (LD D S) ss ∧ ss.length = k ∧ (∀ x ∈ ss, Bd 450 x) ∧ M = [(b, .lst (Bag.ds C'))], ⟨C, [], rfl, rfl, (fun x hx => nomatch hx), rfl⟩, fun k d acc M hd e => ?_, fun acc M e => ?_⟩
  · obtain ⟨C', ss, rfl, hl, hb, rfl⟩ := e
    obtain ⟨hkn, rfl⟩ := rgD_at hd
    refine ⟨by rw [qs_len]; omega, ?_⟩
    repeat' (first | exact absurd ‹true = false› (by decide) | walk_at "yy")
    refine c_some (by simp) (by simp) fun d C4 hd => ?_
    obtain ⟨q, rfl, hq⟩ : ∃ q : Int, d = frq (qv (LD D S) q) ∧ q.natAbs ≤ 49152 := by
      simp only [List.mem_append, List.mem_cons, List.not_mem_nil, or_false] at hd
      rcases hd with (h | h | h | h) | h
      · exact ⟨0, h.trans (by rw [frq_int z 0, Int.zero_mul]), by decide⟩
      · exact ⟨_, h.trans (qS hk), by omega⟩
      · exact ⟨_, h.trans (qSm hk), by omega⟩
      · exact ⟨_, h.trans p2, v2⟩
      · exact ⟨_, h.trans p3, v3⟩
    refine ⟨_, rfl, C4, ss ++ [q], by rw [qs_app]; rfl, by rw [List.length_append, hl]; rfl, fun y hy => ?_, rfl⟩
    rcases List.mem_append.mp hy with hy | hy
    · exact hb y hy
    · rw [List.mem_singleton.mp hy]
      exact Bd.up (j := 20) (by show q.natAbs < 2 ^ 20; omega) (by decide)
  obtain ⟨C', ss, rfl, hl, hb, rfl⟩ := e
  rw [rgD_len] at hl
  repeat' walk_at "yy"
  refine c_tuple (.lst _) ?_
  repeat' walk_at "yy"
  exact ⟨⟨C', [], rfl⟩, ss, rfl, by omega, hb⟩
theorem ok_l_clicks (B : Bt mg) (D_l_in_order : Has P w K mg base 2 "_law_in_order" ["some"] (SpQ K rOrdT)) (D_l_some : Has P w K mg base 2 "_law_some" ["bag", "things"] (SpD K rSome)) (D_l_add : Has P w K mg base 3 "_law_add" ["one", "other"] (SpQ K rAdd)) (D_l_take : Has P w K mg base 1 "_law_take" ["bag", "many"] (SpD K rTake)) (T : Stands K mg "_law_clicks" s_l_clicks ["bag", "hearing"]) : Has P w K mg base 4 "_law_clicks" ["bag", "hearing"] (SpD K rClicks) := by
  refine hasD T sc_l_clicks (fun ds po ⟨c, D, S, lo, most, le, hs, e, _⟩ => by rw [e]; rfl) 4 rfl fun f cdv A outer s H E g hr => ⟨_, (pss_cons (ps_set (i := 2) sc_l_clicks.nd rfl (by first | exact .inl rfl | exact .inr rfl) (pe_lst pa_nil))
      (pss_cons (ps_for PassesOwn.never rfl (pi_range1 (by rfl) B.b_range (pa_cons (pe_op op_add pe_int (peD D_l_take g hr (by first | decide | exact Nat.le_refl _ | omega) (by rfl) (pa_cons (pv 0) (pa_cons pe_int pa_nil)))) pa_nil)) (pg_name (i := 3) sc_l_clicks.nd rfl (by first | exact .inl rfl | exact .inr rfl)) (pss_cons (ps_set (i := 4) sc_l_clicks.nd rfl (by first | exact .inl rfl | exact .inr rfl) (peD D_l_some g hr (by first | decide | exact Nat.le_refl _ | omega) (by rfl) (pa_cons (pv 0) (pa_cons (pv 1) pa_nil))))
      (pss_cons (ps_set (i := 5) sc_l_clicks.nd rfl (by first | exact .inl rfl | exact .inr rfl) (peD D_l_add g hr (by first | decide | exact Nat.le_refl _ | omega) (by rfl) (pa_cons (pv 4) (pa_cons (peD D_l_some g hr (by first | decide | exact Nat.le_refl _ | omega) (by rfl) (pa_cons (pv 0) (pa_cons (pe_lst (pa_cons (pe_tup (pa_cons pe_int (pa_cons pe_int pa_nil))) (pa_cons (pe_tup (pa_cons pe_int (pa_cons pe_int pa_nil))) (pa_cons (pe_tup (pa_cons (pe_un un_neg pe_int) (pa_cons pe_int pa_nil))) (pa_cons (pe_tup (pa_cons pe_int (pa_cons pe_int pa_nil))) (pa_cons (pe_tup (pa_cons pe_int (pa_cons pe_int pa_nil))) (pa_cons (pe_tup (pa_cons (pe_un un_neg pe_int) (pa_cons pe_int pa_nil))) pa_nil))))))) pa_nil))) pa_nil))))
      (pss_one (ps_set (i := 2) sc_l_clicks.nd rfl (by first | exact .inl rfl | exact .inr rfl) (pe_ifExp (pt_cmpR (op_inD (Nat.lt_trans (Nat.lt_succ_self _) (room66 hr))) (pv 5) (pv 2) (by with_unfolding_all rfl)) (pv 2) (pe_op op_cat (pv 2) (pe_lst (pa_cons (pv 5) pa_nil)))))))))
      (pss_one (ps_ret (peD D_l_in_order g hr (by first | decide | exact Nat.le_refl _ | omega) (by rfl) (pa_cons (pv 2) pa_nil)))))), ?_⟩
  try dsimp only [cxOf]
  rintro b C ds po ⟨c, D, S, lo, most, le, hs, rfl, hk, hne, hl, hb, rfl⟩
  have z := szLD hk
  obtain ⟨L0, L1⟩ := LD_bd hk
  have hne2 : qs (LD D S) hs ≠ [] := fun e => hne (by simpa [qs] using e)
  refine sj_seq ?_
  with_reducible refine sj_set ?_
  repeat' walk_at "yy"
  refine sj_for ?_
  repeat' walk_at "yy"
  · decide
  · show _ < _; decide
  intro v C1 v0 v1
  repeat' walk_at "yy"
  refine ⟨by omega, ?_⟩
  refine ⟨fun k es M => ∃ (C' : Bag) (ws : List Int) (e3 e4 e5 : Ent), es = [.ref b, .dat (.tuple (qs (LD D S) hs)), .dat (.list (qs (LD D S) ws)), e3, e4, e5] ∧ M = [(b, .lst (Bag.ds C'))] ∧ ws.length ≤ k ∧ ∀ x ∈ ws, Bd 728 x, ⟨C1, [], .no, .no, .no, rfl, rfl, Nat.zero_le _, fun x hx => nomatch hx⟩, ?_, ?_⟩
  · rintro k d es M hd ⟨C2, ws, e3, e4, e5, rfl, rfl, hwl, hwb⟩
    obtain ⟨hkn, rfl⟩ := rgD_at hd
    repeat' walk_at "yy"
    refine c_someS (.tup _) hne2 (by rw [qs_len]; omega) fun d C3 hd => ?_
    obtain ⟨q0, hq0, rfl⟩ := List.mem_map.mp (show d ∈ (hs.map (qv (LD D S))).map frq from hd)
    obtain ⟨m, hm, rfl⟩ := List.mem_map.mp hq0
    have mb := hb m hm
    clear hd hq0
    repeat' walk_at "yy"
    refine c_some (by simp) (by simp) fun d C4 hd => ?_
    obtain ⟨q, rfl, hq⟩ : ∃ q : Int, d = frq (qv (LD D S) q) ∧ q.natAbs ≤ 9 * 49152 := by
      have e2 : LD D S = 2 * (D.2 * (6 * S.2)) := by unfold LD; grind
      have e3 : LD D S = 3 * (D.2 * (4 * S.2)) := by unfold LD; grind
      simp only [List.mem_cons, List.not_mem_nil, or_false] at hd
      rcases hd with h | h | h | h | h | h
      · exact ⟨_, h.trans (frq_int z 0), by omega⟩
      · exact ⟨_, h.trans (qLit (x := 1) (y := 2) (e := D.2 * (6 * S.2)) z ⟨by decide, by decide⟩ e2), by omega⟩
      · exact ⟨_, h.trans (qLit (x := -1) (y := 3) (e := D.2 * (4 * S.2)) z ⟨by decide, by decide⟩ e3), by omega⟩
      · exact ⟨_, h.trans (frq_int z 9), by omega⟩
      · exact ⟨_, h.trans (frq_int z 5), by omega⟩
      · exact ⟨_, h.trans (frq_int z (-4)), by omega⟩
    clear hd
    have qb : Bd 725 q := Bd.up (j := 20) (by show q.natAbs < 2 ^ 20; omega) (by decide)
    have mq := mb.add qb
    repeat' (first | refine c_addLV z (mb.up (by decide)) (qb.up (by decide)) ?_ | walk_at "yy")
    refine o_inD ((wt_qv z (mq.up (by decide))).shaped (by decide)) (shaped_qsL z (fun x hx => (hwb x hx).up (by decide)) (by omega)) ?_
    repeat' walk_at "yy"
    · exact ⟨C4, ws, _, _, _, rfl, rfl, by omega, hwb⟩
    · rw [qs_len, List.length_singleton]
      omega
    · refine ⟨C4, ws ++ [m + q], _, _, _, by rw [qs_app]; rfl, rfl, by rw [List.length_append, List.length_singleton]; omega, fun x hx => ?_⟩
      rcases List.mem_append.mp hx with hx | hx
      · exact hwb x hx
      · rw [List.mem_singleton.mp hx]
        exact mq.up (by decide)
  · rintro es M ⟨C2, ws, e3, e4, e5, rfl, rfl, hwl, hwb⟩
    rw [rgD_len] at hwl
    repeat' walk_at "yy"
    refine c_Q (.cons .nil) _ ⟨_, LD D S, ws, rfl, .lst _, z, fun x hx => (hwb x hx).up (by decide), by omega, rfl⟩ fun r er => ?_
    subst er
    exact ⟨_, rfl, ⟨C2, [], rfl⟩, srt ws, rfl, by rw [srt_len]; omega, srt_asc _, fun x hx => hwb x (srt_mem hx)⟩
end
end K34

set_option Elab.async false
set_option linter.all false
set_option maxRecDepth 100000
set_option maxHeartbeats 1000000
set_option exponentiation.threshold 20000
namespace K34
open PySem PySem.Spec PyProof.Rows L2 Yw
local macro_rules | `(tactic| walk_at "ye") => `(tactic| first
  | ((with_reducible show Ev _ (tVar _) _ _ _); first | refine ev_dat rfl ?_ | refine ev_ref rfl ?_ | refine ev_var rfl (fun z => nomatch z) ?_)
  | ((with_reducible show Ev _ (tC _) _ _ _); first | with_reducible refine ev_int ?_ | with_reducible refine ev_bl ?_ | with_reducible refine ev_non ?_ | with_reducible refine ev_str ?_ | with_reducible refine ev_ty ?_)
  | with_reducible refine ev_op ?_
  | with_reducible refine ev_un ?_
  | with_reducible refine ev_go ?_
  | with_reducible refine ev_cb ?_
  | with_reducible refine ev_tupD ?_
  | with_reducible refine ev_lstD ?_
  | with_reducible refine ev_chain ?_
  | with_reducible refine ev_if ?_
  | with_reducible refine ev_andV ?_
  | with_reducible refine ev_orV ?_
  | with_reducible refine ev_notV ?_
  | with_reducible refine ev_sl ?_
  | with_reducible refine ev_bm ?_)
local macro_rules | `(tactic| walk_at "ya") => `(tactic| first
  | with_reducible refine ea_cons ?_
  | with_reducible refine ea_nil ?_
  | with_reducible refine eo_none ?_
  | with_reducible refine eo_some ?_
  | with_reducible refine et_test ?_
  | with_reducible refine et_B ?_
  | with_reducible refine et_and ?_
  | with_reducible refine et_or ?_
  | with_reducible refine et_not ?_
  | with_reducible refine et_yes ?_
  | with_reducible refine tg_name ?_
  | with_reducible refine tgs_nil ?_
  | with_reducible refine tgs_cons ?_
  | ((with_reducible show Tg _ (gTup _ _ _) _ _ _ _); refine tg_tup rfl ?_)
  | with_reducible refine tg_sub ?_)
local macro_rules | `(tactic| walk_at "ys") => `(tactic| first
  | with_reducible refine sj_seq ?_
  | with_reducible refine sj_next ?_
  | with_reducible refine sj_newD ?_
  | with_reducible refine sj_set ?_
  | with_reducible refine sj_par ?_
  | with_reducible refine sj_ret ?_
  | with_reducible refine sj_drop ?_
  | with_reducible refine sj_if ?_
  | with_reducible refine sj_asg ?_
  | with_reducible refine sj_augS ?_
  | with_reducible refine iw_seq ?_
  | with_reducible refine iw_zip ?_
  | with_reducible refine iw_list ?_
  | with_reducible refine iw_tup ?_
  | with_reducible refine iw_r1 ?_
  | with_reducible refine iw_r2 ?_
  | with_reducible refine iw_enumT ?_)
local macro_rules | `(tactic| walk_at "yo") => `(tactic| first
  | with_reducible refine o_int ?_
  | with_reducible refine o_bool ?_
  | with_reducible refine o_mul (by first | exact mulR ⟨by decide, by decide⟩ | exact mulL ⟨by decide, by decide⟩) ?_
  | with_reducible refine o_mul ?_ ?_
  | with_reducible refine o_mod (by decide) ?_
  | with_reducible refine o_mod ?_ ?_
  | with_reducible refine o_div (by decide) (by decide +kernel) ?_
  | with_reducible refine o_cat ?_ ?_
  | with_reducible refine o_catT ?_ ?_
  | ((with_reducible show Op2 _ (rIxL _) (Ent.ref _) _ _ _); refine o_ixM (List.Mem.head _) rfl ?_)
  | with_reducible refine o_eqI ?_
  | with_reducible refine o_neI ?_
  | with_reducible refine o_eqS ?_
  | with_reducible refine o_neS ?_
  | with_reducible refine o_neg ?_
  | ((with_reducible show Op2 _ (rIxT _) _ _ _ _); refine o_ixT rfl ?_)
  | ((with_reducible show Op2 _ (rIxL _) (Ent.dat _) _ _ _); refine o_ixL rfl ?_)
  | ((with_reducible show Op2 _ (rI CPow _) _ _ _ _); refine o_pow ⟨by decide, by decide, by decide⟩ rfl ?_)
  | with_reducible refine c_abs ?_
  | with_reducible refine c_int ?_
  | with_reducible refine c_min2 ?_
  | with_reducible refine c_max2 ?_
  | with_reducible refine c_gcd ?_
  | with_reducible refine sl_L ?_
  | with_reducible refine c_len (.lst _) ?_
  | with_reducible refine c_len (.tup _) ?_)
local macro_rules | `(tactic| walk_at "yx") => `(tactic| first
  | with_reducible refine ⟨_, rfl, ?_⟩
  | with_reducible refine ⟨_, _, rfl, ?_⟩
  | with_reducible refine ⟨fun _ => ?_, fun _ => ?_⟩
  | ((with_reducible show ∃ _ _ _ _ _ _, _ = _ ∧ _ = _ ∧ _ = _ ∧ _ = _ ∧ _); refine ⟨[], _, _, _, _, _, rfl, rfl, rfl, rfl, ?_⟩)
  | ((with_reducible show ∃ _ _ _ _ _, _ = _ ∧ _ = _ ∧ _ ∧ _ ∧ _ ∧ _ = _ ∧ _ = _ ∧ _); refine ⟨_, _, _, _, _, rfl, rfl, List.Mem.head _, by decide, by decide, rfl, rfl, ?_⟩)
  | ((with_reducible show ∃ _ _ _, _ = _ ∧ _ = _ ∧ _); refine ⟨[], _, _, rfl, rfl, ?_⟩)
  | ((with_reducible show ∃ _, Ds _ _ ∧ _ ∧ _); refine ⟨_, (by repeat (first | exact Ds.nil | apply Ds.cons)), (by simp), ?_⟩))
local macro_rules | `(tactic| walk_at "yy") => `(tactic| first | walk_at "ye" | walk_at "ya" | walk_at "ys" | walk_at "yo" | walk_at "yx" | walk_at "yc")

local macro_rules | `(tactic| walk_at "yc") => `(tactic| first | with_reducible refine c_take ?_ ?_ ?_)
/-! ### formats, slots, harms, nights -/
structure FK (lo most : Nat) (data : Nat) (many spare : Int) : Prop where
  d7 : data ≤ 7
  ne : rowsL lo most data ≠ []
def fkD (c : Int) (D S : Int × Int) (lo most le : Nat) (data : Nat) (many spare : Int) : PyData := fmD (bdQ c D S lo most le) (data : Int) many spare
def rFormD : RR := fun ds po => ∃ c D S lo most le, ds = [bdQ c D S lo most le, .int 7] ∧ BK c D S lo most le ∧ po = fun r => ∃ (data : Nat) (many spare : Int), r = fkD c D S lo most le data many spare ∧ FK lo most data many spare
def rFullRow : RR := fun ds po => ∃ c D S lo most le, ∃ (data : Nat) (many spare : Int), ds = [fkD c D S lo most le data many spare] ∧ BK c D S lo most le ∧ FK lo most data many spare ∧ po = fun r => ∃ body ∈ rowsL lo most data, r = rowD (List.replicate le (most : Int) ++ body ++ List.replicate le (most : Int))
def rSlotD : RR := fun ds po => ∃ c D S lo most le, ∃ (data : Nat) (many spare : Int), ds = [fkD c D S lo most le data many spare] ∧ BK c D S lo most le ∧ FK lo most data many spare ∧ po = fun r => ∃ o : OptRow, r = slotD o ∧ ∀ q, o = some q → Beg lo most le (data : Int) q
def HarmB : Harm → Prop
  | .mis js => js.length ≤ 300 ∧ ∀ j ∈ js, 0 ≤ j ∧ j ≤ 300
  | .cli ws => ws.length ≤ 3 ∧ Asc ws ∧ ∀ x ∈ ws, Bd 728 x
theorem HarmB.ok {h : Harm} (b : HarmB h) : HarmOk h := by
  cases h with
  | mis js => exact b
  | cli ws => exact ⟨b.1, b.2.1, fun x hx => (b.2.2 x hx).up (by decide)⟩
def rMild : RR := fun ds po => ∃ c D S lo most le, ∃ (data : Nat) (many spare : Int) (row hs : List Int), ds = [fkD c D S lo most le data many spare, rowD row, .tuple (qs (LD D S) hs)] ∧ BK c D S lo most le ∧ FK lo most data many spare ∧ Beg lo most le (data : Int) row ∧ row.length ≤ 60 ∧ hs.length = row.length + 1 ∧ (∀ x ∈ hs, Bd 725 x) ∧ Asc hs ∧ po = fun r => ∃ h : Harm, r = hD (LD D S) h ∧ HarmB h
def rItemL : RR := fun ds po => ∃ c D S lo most le, ∃ (data : Nat) (many spare : Int) (o : OptRow), ds = [fkD c D S lo most le data many spare, slotD o] ∧ BK c D S lo most le ∧ FK lo most data many spare ∧ (∀ q, o = some q → Beg lo most le (data : Int) q) ∧ po = fun r => ∃ i : Option Item, r = itemD (LD D S) i ∧ NOk o i
def rReelN : RR := fun ds po => ∃ c D S lo most le, ∃ (data : Nat) (many spare : Int), ds = [fkD c D S lo most le data many spare, .int 4] ∧ BK c D S lo most le ∧ FK lo most data many spare ∧ po = fun r => ∃ (reel : List OptRow) (night : List (Option Item)), r = .tuple [.tuple (reel.map slotD), .tuple (night.map (itemD (LD D S)))] ∧ reel.length ≤ 4 ∧ reel.length = night.length ∧ (∀ p ∈ reel.zip night, NOk p.1 p.2) ∧ ∀ q, some q ∈ reel → Beg lo most le (data : Int) q
theorem hears_bd5 {row : List Int} {i : Item} (h : ItemOk row i) : ∀ x ∈ hears row i, Bd 725 x := fun x hx => by
  have hx := srt_mem hx
  have e : List.zipWith (· + ·) (marks i.m i.ms row) i.ss = ((marks i.m i.ms row).zip i.ss).map fun p => p.1 + p.2 := by
    rw [List.map_zip_eq_zipWith]
    rfl
  rw [e] at hx
  obtain ⟨p, hp, rfl⟩ := List.mem_map.mp hx
  have hm := List.of_mem_zip (a := p.1) (b := p.2) hp
  exact ((marks_bd h.rw h.sm _ hm.1).add ((h.bb _ hm.2).up (by decide))).up (by decide)
theorem c_intBl {K : PySem.W.Frag} {M : MM} {P : Ent → MM → Prop} {k : Bool} (p : P (.dat (.int (if k then 1 else 0))) M) : Cb K (fun xs H Q => (∃ i, xs = [.int i] ∧ Q (.int i) H) ∨ ∃ k, xs = [.bl k] ∧ Q (.int (if k then 1 else 0)) H) [.dat (.bool k)] M P := fun vs G H Q a w r => by
  cases a with
  | cons x y =>
    cases y
    cases x
    exact .inr ⟨k, rfl, r.val w p (.int _)⟩
theorem shaped_rows {rs : List (List Int)} (hl : rs.length ≤ 128) (h : ∀ q ∈ rs, q.length ≤ 7 ∧ ∀ x ∈ q, 0 ≤ x ∧ x ≤ 16) : SeqAt.shaped (.list (rs.map rowD)) = true :=
  (Wt.list (w := 7 * 1923 + 3) (dp := 1) (n := 128) (fun d hd => by
    obtain ⟨q, hq, rfl⟩ := List.mem_map.mp hd
    obtain ⟨a, b⟩ := h q hq
    exact wt_ints a fun x hx => by
      have := b x hx
      exact Nat.lt_of_lt_of_le (show x.natAbs < 2 ^ 10 by omega) (Nat.pow_le_pow_right (by decide) (by decide))) (by rw [List.length_map]; exact hl)).shaped (by decide)
theorem rows_shaped {lo most d : Nat} (h1 : 1 ≤ lo) (m6 : most ≤ 6) (h7 : d ≤ 7) : SeqAt.shaped (.list ((rowsL lo most d).map rowD)) = true :=
  shaped_rows (rows_few h1 h7) fun q hq => by
    obtain ⟨_, b, e⟩ := rowsL_mem h1 d d (Nat.le_refl _) q hq
    exact ⟨by omega, fun x hx => by have := e x hx; omega⟩
theorem rowsL_one {lo most : Nat} (h1 : 1 ≤ lo) (hl : lo ≤ most) : rowsL lo most lo ≠ [] := by
  rw [rowsL_eq h1 (by omega), rowsR_step (by omega)]
  unfold fromQ
  rw [Nat.sub_self, rowsL_zero]
  simp
theorem beg_bd {c : Int} {D S : Int × Int} {lo most le data : Nat} {row : List Int} (h : BK c D S lo most le) (d7 : data ≤ 7) (b : Beg lo most le (data : Int) row) : row.length ≤ 43 ∧ 0 ≤ row.sum ∧ row.sum ≤ 43 := by
  have l1 := h.B.l1
  have l2 := h.B.l2
  have m6 := h.m6
  have le3 := h.le3
  have hin := beg_in l2 b
  have a := sum_posI (l := row) fun x hx => by have := hin x hx; omega
  obtain ⟨n, body, hs, hb, hr⟩ := b
  have tot : (List.replicate le (most : Int) ++ body ++ List.replicate le (most : Int)).sum = data + 2 * ((le : Int) * (most : Int)) := by
    rw [List.sum_append, List.sum_append, sum_repl, hs]
    omega
  have pos : ∀ x ∈ (List.replicate le (most : Int) ++ body ++ List.replicate le (most : Int)).drop n, (1 : Int) ≤ x := fun x hx => by
    rcases List.mem_append.mp (List.mem_of_mem_drop hx) with hx | hx
    · rcases List.mem_append.mp hx with hx | hx
      · rw [(List.mem_replicate.mp hx).2]; omega
      · have := hb x hx; omega
    · rw [(List.mem_replicate.mp hx).2]; omega
  have sp := sum_posI pos
  have sm := congrArg List.sum (List.take_append_drop n (List.replicate le (most : Int) ++ body ++ List.replicate le (most : Int)))
  rw [List.sum_append, ← hr, tot] at sm
  have lm : (le : Int) * (most : Int) ≤ 18 := Int.le_trans (Int.mul_le_mul (show (le : Int) ≤ 3 by omega) (show (most : Int) ≤ 6 by omega) (by omega) (by decide)) (by decide)
  omega
theorem full_len {c : Int} {D S : Int × Int} {lo most le data : Nat} {body : List Int} (h : BK c D S lo most le) (d7 : data ≤ 7) (hm : body ∈ rowsL lo most data) : (List.replicate le (most : Int) ++ body ++ List.replicate le (most : Int)).length ≤ 43 ∧ Beg lo most le (data : Int) (List.replicate le (most : Int) ++ body ++ List.replicate le (most : Int)) := by
  obtain ⟨a, _, e⟩ := rowsL_mem h.B.l1 data data (Nat.le_refl _) body hm
  have b : Beg lo most le (data : Int) (List.replicate le (most : Int) ++ body ++ List.replicate le (most : Int)) := ⟨_, body, a, e, (List.take_of_length_le (Nat.le_refl _)).symm⟩
  exact ⟨(beg_bd h d7 b).1, b⟩
theorem beg_take {lo most le : Nat} {data : Int} {row : List Int} {m : Nat} (h : Beg lo most le data row) : Beg lo most le data (row.take m) := by
  obtain ⟨n, body, hs, hb, hr⟩ := h
  exact ⟨min m n, body, hs, hb, by rw [hr, List.take_take]⟩
section
variable {P : Program} {w : World} {K : PySem.W.Frag} {mg : Str → Option Value} {base : Heap}
theorem ok_l_form (B : Bt mg) (D_l_take : Has P w K mg base 1 "_law_take" ["bag", "many"] (SpD K rTake)) (D_l_bodies : Has P w K mg base 8 "_law_bodies" ["bounds", "data"] (SpQ K (rBod 8))) (T : Stands K mg "_law_form" s_l_form ["bag", "bounds", "most"]) : Has P w K mg base 9 "_law_form" ["bag", "bounds", "most"] (SpD K rFormD) := by
  refine hasD T sc_l_form (fun ds po ⟨c, D, S, lo, most, le, e, _⟩ => by rw [e]; rfl) 1 rfl fun f cdv A outer s H E g hr => ⟨_, (pss_cons (ps_set (i := 3) sc_l_form.nd rfl (by first | exact .inl rfl | exact .inr rfl) (pe_op op_add (pe_ix ix_tup (pv 1) pe_int (fun _ _ => rfl)) (peD D_l_take g hr (by first | decide | exact Nat.le_refl _ | omega) (by rfl) (pa_cons (pv 0) (pa_cons (pe_op op_add (pe_op op_sub (pv 2) (pe_ix ix_tup (pv 1) pe_int (fun _ _ => rfl))) pe_int) pa_nil)))))
      (pss_cons (ps_while PassesOwn.never (pt_cmpR (op_eqD hr.units) (peD D_l_bodies g hr (by first | decide | exact Nat.le_refl _ | omega) (by rfl) (pa_cons (pv 1) (pa_cons (pv 3) pa_nil))) (pe_lst pa_nil) (nomark _)) (pss_one (ps_aug (i := 3) sc_l_form.nd rfl (by first | exact .inl rfl | exact .inr rfl) pe_int ip_sub)))
      (pss_one (ps_ret (pe_tup (pa_cons (pv 1) (pa_cons (pv 3) (pa_cons (pe_op op_add pe_int (peD D_l_take g hr (by first | decide | exact Nat.le_refl _ | omega) (by rfl) (pa_cons (pv 0) (pa_cons pe_int pa_nil)))) (pa_cons (peD D_l_take g hr (by first | decide | exact Nat.le_refl _ | omega) (by rfl) (pa_cons (pv 0) (pa_cons pe_int pa_nil))) pa_nil))))))))), ?_⟩
  try dsimp only [cxOf]
  rintro b C ds po ⟨c, D, S, lo, most, le, rfl, hk, rfl⟩
  have l1 := hk.B.l1
  have l2 := hk.B.l2
  have lo3 := hk.lo3
  have m6 := hk.m6
  repeat' walk_at "yy"
  · omega
  · exact Bd.up (j := 10) (by show _ < _; omega) (by decide)
  intro v C1 v0 v1
  repeat' walk_at "yy"
  refine sj_while (fun m es M => ∃ (d : Nat), m = d ∧ lo ≤ d ∧ d ≤ 7 ∧ es = [.ref b, .dat (bdQ c D S lo most le), .dat (.int 7), .dat (.int (d : Int))] ∧ M = [(b, .lst (Bag.ds C1))]) (lo + v.toNat) ⟨lo + v.toNat, rfl, by omega, by omega, by rw [show ((lo + v.toNat : Nat) : Int) = (lo : Int) + v by omega]; rfl, rfl⟩ ?_
  rintro m es M ⟨d, rfl, hd1, hd7, rfl, rfl⟩
  repeat' walk_at "yy"
  refine c_Q (.cons (.cons .nil)) _ ⟨c, D, S, lo, most, le, m, rfl, l1, l2, by omega, by omega, hd7, rfl⟩ fun r er => ?_
  subst er
  repeat' walk_at "yy"
  refine o_eqD (rows_shaped l1 m6 hd7) shaped_nil ?_
  rw [eqv_nil]
  repeat' walk_at "yy"
  · have he : (rowsL lo most m).map rowD = [] := of_decide_eq_true ‹decide ((rowsL lo most m).map rowD = []) = true›
    have he2 : rowsL lo most m = [] := by simpa using he
    have hne : m ≠ lo := fun z => rowsL_one l1 l2 (z ▸ he2)
    refine sj_aug rfl ?_
    repeat' walk_at "yy"
    exact ⟨m - 1, by omega, m - 1, rfl, by omega, by omega, by rw [show ((m - 1 : Nat) : Int) = (m : Int) - 1 by omega]; rfl, rfl⟩
  · decide
  · show _ < _; decide
  have he : (rowsL lo most m).map rowD ≠ [] := of_decide_eq_false ‹decide ((rowsL lo most m).map rowD = []) = false›
  intro v2 C2 w0 w1
  repeat' walk_at "yy"
  · decide
  · show _ < _; decide
  intro v3 C3 u0 u1
  repeat' walk_at "yy"
  exact ⟨⟨C3, [], rfl⟩, m, 1 + v2, v3, rfl, hd7, fun z => he (by rw [z]; rfl)⟩
theorem ok_l_full_row (B : Bt mg) (D_l_lead : Has P w K mg base 1 "_law_lead" ["bounds"] (SpQ K rLeadOf)) (D_l_some : Has P w K mg base 2 "_law_some" ["bag", "things"] (SpD K rSome)) (D_l_bodies : Has P w K mg base 8 "_law_bodies" ["bounds", "data"] (SpQ K (rBod 8))) (T : Stands K mg "_law_full_row" s_l_full_row ["bag", "form"]) : Has P w K mg base 9 "_law_full_row" ["bag", "form"] (SpD K rFullRow) := by
  refine hasD T sc_l_full_row (fun ds po ⟨c, D, S, lo, most, le, data, many, spare, e, _⟩ => by rw [e]; rfl) 1 rfl fun f cdv A outer s H E g hr => ⟨_, (pss_cons (ps_set (i := 2) sc_l_full_row.nd rfl (by first | exact .inl rfl | exact .inr rfl) (peD D_l_lead g hr (by first | decide | exact Nat.le_refl _ | omega) (by rfl) (pa_cons (pe_ix ix_tup (pv 1) pe_int (fun _ _ => rfl)) pa_nil)))
      (pss_one (ps_ret (pe_op op_catA (pe_op op_catA (pv 2) (peD D_l_some g hr (by first | decide | exact Nat.le_refl _ | omega) (by rfl) (pa_cons (pv 0) (pa_cons (peD D_l_bodies g hr (by first | decide | exact Nat.le_refl _ | omega) (by rfl) (pa_cons (pe_ix ix_tup (pv 1) pe_int (fun _ _ => rfl)) (pa_cons (pe_ix ix_tup (pv 1) pe_int (fun _ _ => rfl)) pa_nil))) pa_nil)))) (pv 2))))), ?_⟩
  try dsimp only [cxOf]
  rintro b C ds po ⟨c, D, S, lo, most, le, data, many, spare, rfl, hk, hf, rfl⟩
  unfold fkD
  repeat' walk_at "yy"
  refine c_Q (.cons .nil) _ ⟨c, D, S, lo, most, le, rfl, by have := hk.le3; omega, rfl⟩ fun r er => ?_
  subst er
  repeat' walk_at "yy"
  refine c_Q (.cons (.cons .nil)) _ ⟨c, D, S, lo, most, le, data, rfl, hk.B.l1, hk.B.l2, by have := hk.m6; omega, by have := hf.d7; omega, hf.d7, rfl⟩ fun r er => ?_
  subst er
  have few := rows_few (most := most) hk.B.l1 hf.d7
  repeat' walk_at "yy"
  refine c_some (by have := hf.ne; simpa using this) (by rw [List.length_map]; omega) fun d C1 hd => ?_
  obtain ⟨body, hb, rfl⟩ := List.mem_map.mp hd
  have fl := full_len hk hf.d7 hb
  have fl1 := fl.1
  rw [List.length_append, List.length_append, List.length_replicate] at fl1
  repeat' walk_at "yy"
  · rw [List.length_map, List.length_map, List.length_replicate]; omega
  · rw [List.length_append, List.length_map, List.length_map, List.length_replicate]; omega
  exact ⟨⟨C1, [], rfl⟩, body, hb, by rw [← List.map_append, ← List.map_append]⟩
theorem ok_l_slot (B : Bt mg) (D_l_full_row : Has P w K mg base 9 "_law_full_row" ["bag", "form"] (SpD K rFullRow)) (D_l_some : Has P w K mg base 2 "_law_some" ["bag", "things"] (SpD K rSome)) (D_l_take : Has P w K mg base 1 "_law_take" ["bag", "many"] (SpD K rTake)) (T : Stands K mg "_law_slot" s_l_slot ["bag", "form"]) : Has P w K mg base 10 "_law_slot" ["bag", "form"] (SpD K rSlotD) := by
  refine hasD T sc_l_slot (fun ds po ⟨c, D, S, lo, most, le, data, many, spare, e, _⟩ => by rw [e]; rfl) 1 rfl fun f cdv A outer s H E g hr => ⟨_, (pss_cons (ps_set (i := 2) sc_l_slot.nd rfl (by first | exact .inl rfl | exact .inr rfl) (peD D_l_full_row g hr (by first | decide | exact Nat.le_refl _ | omega) (by rfl) (pa_cons (pv 0) (pa_cons (pv 1) pa_nil))))
      (pss_one (ps_ret (peD D_l_some g hr (by first | decide | exact Nat.le_refl _ | omega) (by rfl) (pa_cons (pv 0) (pa_cons (pe_lst (pa_cons (pv 2) (pa_cons (pv 2) (pa_cons (pe_slice sl_tupA (pv 2) po_none (po_some (peD D_l_take g hr (by first | decide | exact Nat.le_refl _ | omega) (by rfl) (pa_cons (pv 0) (pa_cons (pe_op op_add (pe_callB call_len_seq (by rfl) B.b_len (by decide +kernel) (pa_cons (pv 2) pa_nil)) pe_int) pa_nil))))) (pa_cons pe_non (pa_cons (pv 2) pa_nil)))))) pa_nil)))))), ?_⟩
  try dsimp only [cxOf]
  rintro b C ds po ⟨c, D, S, lo, most, le, data, many, spare, rfl, hk, hf, rfl⟩
  repeat' walk_at "yy"
  refine c_D (.cons .nil) _ ⟨c, D, S, lo, most, le, data, many, spare, rfl, hk, hf, rfl⟩ fun z C1 ⟨body, hb, hz⟩ => ?_
  subst hz
  obtain ⟨fl, fb⟩ := full_len hk hf.d7 hb
  generalize List.replicate le (most : Int) ++ body ++ List.replicate le (most : Int) = R at *
  repeat' walk_at "yy"
  · omega
  · rw [List.length_map]
    exact Bd.up (j := 10) (by show _ < _; omega) (by decide)
  intro v C2 v0 v1
  obtain ⟨n, rfl⟩ : ∃ n : Nat, v = (n : Int) := ⟨v.toNat, by omega⟩
  repeat' (first | refine sl_T ?_ | walk_at "yy")
  rw [cut_toG, ← List.map_take]
  repeat' walk_at "yy"
  refine c_some (by simp) (by simp) fun d C3 hd => ?_
  have hd : ∃ o : OptRow, d = slotD o ∧ ∀ q, o = some q → Beg lo most le (data : Int) q := by
    have f1 : ∀ q, (some R : OptRow) = some q → Beg lo most le (data : Int) q := fun q e => by cases e; exact fb
    have f2 : ∀ q, (some (R.take n) : OptRow) = some q → Beg lo most le (data : Int) q := fun q e => by cases e; exact beg_take fb
    simp only [List.mem_cons, List.not_mem_nil, or_false] at hd
    rcases hd with h | h | h | h | h
    · exact ⟨some R, h, f1⟩
    · exact ⟨some R, h, f1⟩
    · exact ⟨some (R.take n), h, f2⟩
    · exact ⟨none, h, fun q e => nomatch e⟩
    · exact ⟨some R, h, f1⟩
  repeat' walk_at "yy"
  exact ⟨⟨C3, [], rfl⟩, hd⟩
theorem ok_l_mild_harm (B : Bt mg) (D_l_some : Has P w K mg base 2 "_law_some" ["bag", "things"] (SpD K rSome)) (D_l_is_full : Has P w K mg base 2 "_law_is_full" ["form", "slot"] (SpQ K rLFull)) (D_l_clicks : Has P w K mg base 4 "_law_clicks" ["bag", "hearing"] (SpD K rClicks)) (D_l_take : Has P w K mg base 1 "_law_take" ["bag", "many"] (SpD K rTake)) (D_l_is_below : Has P w K mg base 1 "_law_is_below" ["one", "other"] (SpQ K rBelow)) (T : Stands K mg "_law_mild_harm" s_l_mild_harm ["bag", "form", "slot", "hearing"]) : Has P w K mg base 5 "_law_mild_harm" ["bag", "form", "slot", "hearing"] (SpD K rMild) := by
  refine hasD T sc_l_mild_harm (fun ds po ⟨c, D, S, lo, most, le, data, many, spare, row, hs, e, _⟩ => by rw [e]; rfl) 9 rfl fun f cdv A outer s H E g hr => ⟨_, (pss_cons (ps_asg (pe_tup (pa_cons (pe_ix ix_tup (pe_ix ix_tup (pv 1) pe_int (fun _ _ => rfl)) pe_int (fun _ _ => rfl)) (pa_cons (pe_op op_sub (pe_callB call_len_seq (by rfl) B.b_len (by decide +kernel) (pa_cons (pv 3) pa_nil)) pe_int) (pa_cons (peD D_l_is_full g hr (by first | decide | exact Nat.le_refl _ | omega) (by rfl) (pa_cons (pv 1) (pa_cons (pv 2) pa_nil))) pa_nil)))) (pg_tup rfl (pgs_cons (pg_name (i := 4) sc_l_mild_harm.nd rfl (by first | exact .inl rfl | exact .inr rfl)) (pgs_cons (pg_name (i := 5) sc_l_mild_harm.nd rfl (by first | exact .inl rfl | exact .inr rfl)) (pgs_cons (pg_name (i := 6) sc_l_mild_harm.nd rfl (by first | exact .inl rfl | exact .inr rfl)) pgs_nil)))))
      (pss_cons (ps_set (i := 7) sc_l_mild_harm.nd rfl (by first | exact .inl rfl | exact .inr rfl) (pe_lst (pa_cons (pe_tup (pa_cons pe_str (pa_cons (pe_tup pa_nil) pa_nil))) (pa_cons (pe_tup (pa_cons pe_str (pa_cons (pe_tup pa_nil) pa_nil))) pa_nil))))
      (pss_cons (ps_setLc (i := 8) (own := [("index", 11)]) (g := gName 11) (tt := _) rfl sc_l_mild_harm.nd rfl rfl (sw_true rfl rfl rfl (by decide +kernel)) (pi_range2 (by rfl) B.b_range (pa_cons (pe_op op_add (pv 4) pe_int) (pa_cons (pe_op op_add (pv 5) pe_int) pa_nil))) (blkOk_by (N := N_l_mild_harm) (sc := defScope s_l_mild_harm) (by decide +kernel)) (fun _ _ _ _ _ => (pg_name (i := 11) sc_l_mild_harm.nd rfl (by first | exact .inl rfl | exact .inr rfl))) (fun _ _ _ _ _ => pts_one (pt_cmpR op_eq (peD D_l_take g hr (by first | decide | exact Nat.le_refl _ | omega) (by rfl) (pa_cons (pv 0) (pa_cons pe_int pa_nil))) pe_int (nomark _))) (fun _ _ _ _ _ => (pv 11)))
      (pss_cons (ps_setLc (i := 9) (own := [("index", 11)]) (g := gName 11) (tt := _) rfl sc_l_mild_harm.nd rfl rfl (sw_true rfl rfl rfl (by decide +kernel)) (pi_range1 (by rfl) B.b_range (pa_cons (pe_op op_sub (pv 5) (pv 4)) pa_nil)) (blkOk_by (N := N_l_mild_harm) (sc := defScope s_l_mild_harm) (by decide +kernel)) (fun _ _ _ _ _ => (pg_name (i := 11) sc_l_mild_harm.nd rfl (by first | exact .inl rfl | exact .inr rfl))) (fun _ _ _ _ _ => pts_one (pt_cmpR op_eq (peD D_l_take g hr (by first | decide | exact Nat.le_refl _ | omega) (by rfl) (pa_cons (pv 0) (pa_cons pe_int pa_nil))) pe_int (nomark _))) (fun _ _ _ _ _ => (pv 11)))
      (pss_cons (ps_expr (pe_bm PySem.F.plainAttrs_list PySem.F.slot_list_extend PySem.F.type_list_extend mt_extend (pv 7) (pa_cons (pe_op op_cat (pe_op op_rep (pe_lst (pa_cons (pe_tup (pa_cons pe_str (pa_cons (pe_callTy call_tuple_of (by rfl) B.b_tuple (by decide +kernel) (pa_cons (pv 8) pa_nil)) pa_nil))) pa_nil)) pe_int) (pe_op op_rep (pe_op op_rep (pe_lst (pa_cons (pe_tup (pa_cons pe_str (pa_cons (pe_callTy call_tuple_of (by rfl) B.b_tuple (by decide +kernel) (pa_cons (pv 9) pa_nil)) pa_nil))) pa_nil)) pe_int) (pe_callTy call_int1 (by rfl) B.b_int (by decide +kernel) (pa_cons (pv 6) pa_nil)))) pa_nil)))
      (pss_cons (ps_if (pt_val (pv 6)) (pss_cons (ps_set (i := 10) sc_l_mild_harm.nd rfl (by first | exact .inl rfl | exact .inr rfl) (peD D_l_clicks g hr (by first | decide | exact Nat.le_refl _ | omega) (by rfl) (pa_cons (pv 0) (pa_cons (pv 3) pa_nil))))
      (pss_cons (ps_expr (pe_bm PySem.F.plainAttrs_list PySem.F.slot_list_append PySem.F.type_list_append mt_append (pv 7) (pa_cons (pe_tup (pa_cons pe_str (pa_cons (pe_callTy call_tuple_of (by rfl) B.b_tuple (by decide +kernel) (pa_cons (pe_lc (own := [("click", 12)]) (g := gName 12) (tt := _) rfl sc_l_mild_harm.nd (pi_tup (pv 10)) (blkOk_by (N := N_l_mild_harm) (sc := defScope s_l_mild_harm) (by decide +kernel)) (fun _ _ _ _ _ => (pg_name (i := 12) sc_l_mild_harm.nd rfl (by first | exact .inl rfl | exact .inr rfl))) (fun _ _ _ _ _ => pts_one (pt_val (peD D_l_is_below g hr (by first | decide | exact Nat.le_refl _ | omega) (by rfl) (pa_cons (pe_ix (ixtK (K := K) rfl) (pv 3) (pv 4) (fun _ _ => rfl)) (pa_cons (pv 12) pa_nil))))) (fun _ _ _ _ _ => (pv 12))) pa_nil)) pa_nil))) pa_nil)))
      (pss_one (ps_expr (pe_bm PySem.F.plainAttrs_list PySem.F.slot_list_append PySem.F.type_list_append mt_append (pv 7) (pa_cons (pe_tup (pa_cons pe_str (pa_cons (pe_callTy call_tuple_of (by rfl) B.b_tuple (by decide +kernel) (pa_cons (pe_lc (own := [("click", 12)]) (g := gName 12) (tt := _) rfl sc_l_mild_harm.nd (pi_tup (pv 10)) (blkOk_by (N := N_l_mild_harm) (sc := defScope s_l_mild_harm) (by decide +kernel)) (fun _ _ _ _ _ => (pg_name (i := 12) sc_l_mild_harm.nd rfl (by first | exact .inl rfl | exact .inr rfl))) (fun _ _ _ _ _ => pts_one (pt_val (peD D_l_is_below g hr (by first | decide | exact Nat.le_refl _ | omega) (by rfl) (pa_cons (pv 12) (pa_cons (pe_ix (ixtK (K := K) rfl) (pv 3) (pe_op op_sub (pv 5) (pv 4)) (fun _ _ => rfl)) pa_nil))))) (fun _ _ _ _ _ => (pv 12))) pa_nil)) pa_nil))) pa_nil)))))) pss_nil)
      (pss_one (ps_ret (peD D_l_some g hr (by first | decide | exact Nat.le_refl _ | omega) (by rfl) (pa_cons (pv 0) (pa_cons (pv 7) pa_nil))))))))))), ?_⟩
  try dsimp only [cxOf]
  rintro b C ds po ⟨c, D, S, lo, most, le, data, many, spare, row, hs, rfl, hk, hf, hb, rl, hl, hbd, hup, rfl⟩
  have z := szLD hk
  have le3 := hk.le3
  unfold fkD
  repeat' walk_at "yy"
  refine c_Q (.cons (.cons .nil)) _ ⟨c, D, S, lo, most, le, (data : Int), many, spare, row, rfl, hk.B.l1, hk.B.l2, by have := hk.m6; omega, by omega, rl, hb, rfl⟩ fun r er => ?_
  subst er
  have ful : row.sum = (data : Int) + 2 * ((le : Int) * (most : Int)) → 2 * le ≤ row.length := fun e => by
    obtain ⟨body, _, _, hr⟩ := beg_whole hk.B.l1 hk.B.l2 hb e
    rw [hr]
    simp
    omega
  by_cases e : row.sum = (data : Int) + 2 * ((le : Int) * (most : Int))
  case' neg => rw [decide_eq_false e]
  case' pos => rw [decide_eq_true e]
  all_goals (
    repeat' walk_at "yy"
    intro p hp
    rw [show ∀ x : List PyData, ([(b, MO.lst (Bag.ds C))] ++ [(p, MO.lst x)] : MM) = [(b, MO.lst (Bag.ds C)), (p, MO.lst x)] from fun _ => rfl]
    repeat' walk_at "yy"
    refine ev_lc (own_name (by decide)) ?_
    repeat' walk_at "yy"
    refine ⟨by rw [qs_len]; omega, ?_⟩
    refine ⟨fun k acc M => ∃ (C' : Bag) (js : List Int), acc = js.map PyData.int ∧ js.length ≤ k ∧ (∀ j ∈ js, 0 ≤ j ∧ j ≤ 300) ∧ M = [(b, .lst (Bag.ds C')), (p, .lst [hD (LD D S) (.mis []), hD (LD D S) (.cli [])])], ⟨C, [], rfl, Nat.zero_le _, (fun j hj => nomatch hj), rfl⟩, fun k d acc M hd e => ?_, fun acc M e => ?_⟩
    · obtain ⟨C', js, rfl, jl, jb, rfl⟩ := e
      obtain ⟨hkn, rfl⟩ := rgD_at hd
      rw [qs_len, hl] at hkn
      refine ⟨by rw [List.length_map]; omega, ?_⟩
      repeat' walk_at "yy"
      · decide
      · show _ < _; decide
      intro v C4 v0 v1
      repeat' walk_at "yy"
      · refine ⟨C4, js ++ [(le : Int) + 1 + k], by rw [List.map_append]; rfl, by rw [List.length_append, List.length_singleton]; omega, fun j hj => ?_, rfl⟩
        rcases List.mem_append.mp hj with hj | hj
        · exact jb j hj
        · rw [List.mem_singleton.mp hj]; omega
      · exact ⟨C4, js, rfl, by omega, jb, rfl⟩
    obtain ⟨C5, late, rfl, ll, lb, rfl⟩ := e
    rw [rgD_len, qs_len, hl] at ll
    repeat' walk_at "yy"
    refine ev_lc (own_name (by decide)) ?_
    repeat' walk_at "yy"
    refine ⟨by rw [qs_len]; omega, ?_⟩
    refine ⟨fun k acc M => ∃ (C' : Bag) (js : List Int), acc = js.map PyData.int ∧ js.length ≤ k ∧ (∀ j ∈ js, 0 ≤ j ∧ j ≤ 300) ∧ M = [(b, .lst (Bag.ds C')), (p, .lst [hD (LD D S) (.mis []), hD (LD D S) (.cli [])])], ⟨C5, [], rfl, Nat.zero_le _, (fun j hj => nomatch hj), rfl⟩, fun k d acc M hd e => ?_, fun acc M e => ?_⟩
    · obtain ⟨C', js, rfl, jl, jb, rfl⟩ := e
      obtain ⟨hkn, rfl⟩ := rgD_at hd
      rw [qs_len, hl] at hkn
      refine ⟨by rw [List.length_map]; omega, ?_⟩
      repeat' walk_at "yy"
      · decide
      · show _ < _; decide
      intro v C4 v0 v1
      repeat' walk_at "yy"
      · refine ⟨C4, js ++ [0 + (k : Int)], by rw [List.map_append]; rfl, by rw [List.length_append, List.length_singleton]; omega, fun j hj => ?_, rfl⟩
        rcases List.mem_append.mp hj with hj | hj
        · exact jb j hj
        · rw [List.mem_singleton.mp hj]; omega
      · exact ⟨C4, js, rfl, by omega, jb, rfl⟩
    obtain ⟨C6, early, rfl, el, eb, rfl⟩ := e
    rw [rgD_len, qs_len, hl] at el
    repeat' walk_at "yy"
    refine ⟨ty_ref (List.Mem.tail _ (List.Mem.head _)), ?_⟩
    repeat' (first | refine c_intBl ?_ | refine o_repL (by decide) (by decide) (by simp) ?_ | refine c_tuple (.lst _) ?_ | walk_at "yy"))
  -- a whole row: clicks, too
  · simp
  · refine m_extend (Ma := [(b, MO.lst (Bag.ds C6))]) (Mb := []) rfl (by simp) ?_
    have hn : hs ≠ [] := fun z => by rw [z] at hl; simp at hl
    have hle := ful e
    have bel : ∀ j : Nat, j < hs.length → ∃ x, hs[j]? = some x ∧ Bd 725 x := fun j hj => ⟨hs[j], List.getElem?_eq_getElem hj, hbd _ (List.getElem_mem hj)⟩
    obtain ⟨x1, hx1, bx1⟩ := bel le (by omega)
    obtain ⟨x2, hx2, bx2⟩ := bel (hs.length - 1 - le) (by omega)
    have a1 : atI (qs (LD D S) hs) (le : Int) = some (frq (qv (LD D S) x1)) := atI_nat (qs_get hx1)
    have a2 : atI (qs (LD D S) hs) (((qs (LD D S) hs).length : Int) - 1 - (le : Int)) = some (frq (qv (LD D S) x2)) := by
      rw [qs_len, show (hs.length : Int) - 1 - (le : Int) = ((hs.length - 1 - le : Nat) : Int) by omega]
      exact atI_nat (qs_get hx2)
    have W0 : ∀ h ∈ [Harm.mis [], .cli [], .mis late, .mis late, .mis early, .mis early], HarmB h := by
      have hlate : HarmB (.mis late) := ⟨by omega, lb⟩
      have hearly : HarmB (.mis early) := ⟨by omega, eb⟩
      have h0 : HarmB (.mis []) := ⟨by simp, fun j hj => nomatch hj⟩
      have h1 : HarmB (.cli []) := ⟨by simp, List.Pairwise.nil, fun j hj => nomatch hj⟩
      intro h hm
      simp only [List.mem_cons, List.not_mem_nil, or_false] at hm
      rcases hm with rfl | rfl | rfl | rfl | rfl | rfl <;> assumption
    have Wl : [Harm.mis [], .cli [], .mis late, .mis late, .mis early, .mis early].length ≤ 6 := by simp
    show Sj K _ _ _ ([(b, MO.lst (Bag.ds C6)), (p, MO.lst ([Harm.mis [], .cli [], .mis late, .mis late, .mis early, .mis early].map (hD (LD D S))))] : MM) _
    generalize [Harm.mis [], .cli [], .mis late, .mis late, .mis early, .mis early] = Ws at *
    repeat' (first | exact absurd ‹true = false› (by decide) | walk_at "yy")
    refine c_D (.cons .nil) _ ⟨c, D, S, lo, most, le, hs, rfl, hk, hn, by omega, hbd, rfl⟩ fun y C7 ⟨ws, hy, wl, wa, wb⟩ => ?_
    subst hy
    repeat' walk_at "yy"
    refine ⟨ty_ref (List.Mem.tail _ (List.Mem.head _)), ?_⟩
    repeat' walk_at "yy"
    refine ev_lc (own_name (by decide)) ?_
    repeat' walk_at "yy"
    refine ⟨fun k acc M => ∃ us : List Int, acc = qs (LD D S) us ∧ us.Sublist (ws.take k) ∧ M = [(b, .lst (Bag.ds C7)), (p, .lst (Ws.map (hD (LD D S))))], ⟨[], rfl, by simp, rfl⟩, fun k d acc M hd e2 => ?_, fun acc M e2 => ?_⟩
    · obtain ⟨us, rfl, hsub, rfl⟩ := e2
      obtain ⟨w1, hw, rfl⟩ := qs_at hd
      have ul := hsub.length_le
      rw [List.length_take] at ul
      refine ⟨by rw [qs_len]; omega, ?_⟩
      have bw := wb w1 (List.mem_of_getElem? hw)
      repeat' (first | refine o_ixT a1 ?_ | refine c_belowV z (bx1.up (by decide)) (bw.up (by decide)) ?_ | walk_at "yy")
      · exact ⟨us ++ [w1], by rw [qs_app]; rfl, by rw [take_snoc hw]; exact hsub.append (List.Sublist.refl _), rfl⟩
      · exact ⟨by rw [take_snoc hw]; exact hsub.trans (List.sublist_append_left _ _), rfl⟩
    obtain ⟨us1, rfl, hus1, rfl⟩ := e2
    rw [qs_len, List.take_length] at hus1
    repeat' (first | refine c_tuple (.lst _) ?_ | walk_at "yy")
    refine m_append (Ma := [(b, MO.lst (Bag.ds C7))]) (Mb := []) rfl (by simp; omega) ?_
    repeat' walk_at "yy"
    refine ⟨ty_ref (List.Mem.tail _ (List.Mem.head _)), ?_⟩
    repeat' walk_at "yy"
    refine ev_lc (own_name (by decide)) ?_
    repeat' walk_at "yy"
    refine ⟨fun k acc M => ∃ us : List Int, acc = qs (LD D S) us ∧ us.Sublist (ws.take k) ∧ M = [(b, .lst (Bag.ds C7)), (p, .lst (Ws.map (hD (LD D S)) ++ [hD (LD D S) (.cli us1)]))], ⟨[], rfl, by simp, rfl⟩, fun k d acc M hd e2 => ?_, fun acc M e2 => ?_⟩
    · obtain ⟨us, rfl, hsub, rfl⟩ := e2
      obtain ⟨w1, hw, rfl⟩ := qs_at hd
      have ul := hsub.length_le
      rw [List.length_take] at ul
      refine ⟨by rw [qs_len]; omega, ?_⟩
      have bw := wb w1 (List.mem_of_getElem? hw)
      repeat' (first | refine o_ixT a2 ?_ | refine c_belowV z (bw.up (by decide)) (bx2.up (by decide)) ?_ | walk_at "yy")
      · exact ⟨us ++ [w1], by rw [qs_app]; rfl, by rw [take_snoc hw]; exact hsub.append (List.Sublist.refl _), rfl⟩
      · exact ⟨by rw [take_snoc hw]; exact hsub.trans (List.sublist_append_left _ _), rfl⟩
    obtain ⟨us2, rfl, hus2, rfl⟩ := e2
    rw [qs_len, List.take_length] at hus2
    repeat' (first | refine c_tuple (.lst _) ?_ | walk_at "yy")
    refine m_append (Ma := [(b, MO.lst (Bag.ds C7))]) (Mb := []) rfl (by simp; omega) ?_
    refine sj_fast [(b, .lst (Bag.ds C7))] [] rfl hp (.keep (.keep (.keep (.keep (.keep (.keep (.keep (.hit (.keep (.keep (.keep (.keep (.keep .nil))))))))))))) ?_
    repeat' walk_at "yy"
    refine c_some (by simp) (by simp; omega) fun d C8 hd => ?_
    have cl : ∀ us : List Int, us.Sublist ws → HarmB (.cli us) := fun us h => ⟨Nat.le_trans h.length_le wl, wa.sublist h, fun x hx => wb x (h.subset hx)⟩
    have hd : ∃ h : Harm, d = hD (LD D S) h ∧ HarmB h := by
      rcases List.mem_append.mp hd with hd | hd
      · rcases List.mem_append.mp hd with hd | hd
        · obtain ⟨h, hm, rfl⟩ := List.mem_map.mp hd
          exact ⟨h, rfl, W0 h hm⟩
        · exact ⟨.cli us1, List.mem_singleton.mp hd, cl us1 hus1⟩
      · exact ⟨.cli us2, List.mem_singleton.mp hd, cl us2 hus2⟩
    repeat' walk_at "yy"
    exact ⟨⟨C8, [], rfl⟩, hd⟩
  · simp
  · refine m_extend (Ma := [(b, MO.lst (Bag.ds C6))]) (Mb := []) rfl (by simp) ?_
    have W0 : ∀ h ∈ [Harm.mis [], .cli [], .mis late, .mis late], HarmB h := by
      have hlate : HarmB (.mis late) := ⟨by omega, lb⟩
      have h0 : HarmB (.mis []) := ⟨by simp, fun j hj => nomatch hj⟩
      have h1 : HarmB (.cli []) := ⟨by simp, List.Pairwise.nil, fun j hj => nomatch hj⟩
      intro h hm
      simp only [List.mem_cons, List.not_mem_nil, or_false] at hm
      rcases hm with rfl | rfl | rfl | rfl <;> assumption
    show Sj K _ _ _ ([(b, MO.lst (Bag.ds C6)), (p, MO.lst ([Harm.mis [], .cli [], .mis late, .mis late].map (hD (LD D S))))] : MM) _
    refine sj_fast [(b, .lst (Bag.ds C6))] [] rfl hp (.keep (.keep (.keep (.keep (.keep (.keep (.keep (.hit (.keep (.keep (.keep (.keep (.keep .nil))))))))))))) ?_
    repeat' (first | exact absurd ‹false = true› (by decide) | walk_at "yy")
    refine c_some (by simp) (by simp) fun d C7 hd => ?_
    obtain ⟨h, hm, rfl⟩ := List.mem_map.mp hd
    repeat' walk_at "yy"
    exact ⟨⟨C7, [], rfl⟩, h, rfl, W0 h hm⟩
theorem ok_l_item (B : Bt mg) (D_l_telling : Has P w K mg base 5 "_law_telling" ["bag", "bounds", "cells"] (SpD K rTelD)) (D_l_shifts : Has P w K mg base 4 "_law_shifts" ["bag", "bounds", "marks"] (SpD K rShiftD)) (D_l_mild_harm : Has P w K mg base 5 "_law_mild_harm" ["bag", "form", "slot", "hearing"] (SpD K rMild)) (D_l_hearing : Has P w K mg base 5 "_law_hearing" ["telling", "row", "shifts"] (SpQ K rHearS)) (T : Stands K mg "_law_item" s_l_item ["bag", "form", "slot"]) : Has P w K mg base 6 "_law_item" ["bag", "form", "slot"] (SpD K rItemL) := by
  refine hasD T sc_l_item (fun ds po ⟨c, D, S, lo, most, le, data, many, spare, o, e, _⟩ => by rw [e]; rfl) 2 rfl fun f cdv A outer s H E g hr => ⟨_, (pss_cons (ps_if (pt_cmpR op_isN (pv 2) pe_non (nomark _)) (pss_one (ps_ret pe_non)) pss_nil)
      (pss_cons (ps_par (i := 3) (j := 4) (by rfl) sc_l_item.nd rfl rfl (by decide) rfl rfl (pa_cons (peD D_l_telling g hr (by first | decide | exact Nat.le_refl _ | omega) (by rfl) (pa_cons (pv 0) (pa_cons (pe_ix ix_tup (pv 1) pe_int (fun _ _ => rfl)) (pa_cons (pe_callB (cr_sumA rfl) (by rfl) B.b_sum (by decide +kernel) (pa_cons (pv 2) pa_nil)) pa_nil)))) (pa_cons (peD D_l_shifts g hr (by first | decide | exact Nat.le_refl _ | omega) (by rfl) (pa_cons (pv 0) (pa_cons (pe_ix ix_tup (pv 1) pe_int (fun _ _ => rfl)) (pa_cons (pe_op op_add (pe_callB call_len_seq (by rfl) B.b_len (by decide +kernel) (pa_cons (pv 2) pa_nil)) pe_int) pa_nil)))) pa_nil)) (by rfl))
      (pss_one (ps_ret (pe_tup (pa_cons (pv 3) (pa_cons (pv 4) (pa_cons (peD D_l_mild_harm g hr (by first | decide | exact Nat.le_refl _ | omega) (by rfl) (pa_cons (pv 0) (pa_cons (pv 1) (pa_cons (pv 2) (pa_cons (peD D_l_hearing g hr (by first | decide | exact Nat.le_refl _ | omega) (by rfl) (pa_cons (pv 3) (pa_cons (pv 2) (pa_cons (pv 4) pa_nil)))) pa_nil))))) pa_nil)))))))), ?_⟩
  try dsimp only [cxOf]
  rintro b C ds po ⟨c, D, S, lo, most, le, data, many, spare, o, rfl, hk, hf, hb, rfl⟩
  have z := szLD hk
  unfold fkD
  cases o with
  | none =>
    dsimp only [slotD]
    repeat' (first | refine o_isN2 ?_ | exact absurd ‹isNone .none = false› (by decide) | walk_at "yy")
    exact ⟨⟨C, [], rfl⟩, none, rfl, trivial⟩
  | some row =>
    have hb := hb row rfl
    obtain ⟨rl, s0, s1⟩ := beg_bd hk hf.d7 hb
    obtain ⟨n, hn⟩ : ∃ n : Nat, row.sum = (n : Int) := ⟨row.sum.toNat, by omega⟩
    dsimp only [slotD]
    repeat' (first | refine o_isN2 ?_ | exact absurd ‹isNone (rowD row) = true› Bool.false_ne_true | refine c_sumA (.tup _) ?_ | walk_at "yy")
    rw [hn]
    refine c_D (.cons (.cons .nil)) _ ⟨c, D, S, lo, most, le, n, rfl, hk, by omega, rfl⟩ fun y C1 ⟨m, ms, hy, mb, ml, msb⟩ => ?_
    subst hy
    repeat' walk_at "yy"
    rw [List.length_map]
    refine c_D (.cons (.cons .nil)) _ ⟨c, D, S, lo, most, le, row.length + 1, rfl, hk, by omega, rfl⟩ fun y C2 ⟨ss, hy, sl, ssb⟩ => ?_
    subst hy
    have l1 := hk.B.l1
    have l2 := hk.B.l2
    have hin := beg_in l2 hb
    have ok : ∀ h : Harm, HarmB h → ItemOk row ⟨m, ms, ss, h⟩ := fun h hh => ⟨⟨by show ms.length ≤ 2000; omega, mb.up (by decide), fun x hx => (msb x hx).up (by decide)⟩, ⟨by omega, fun x hx => by have := hin x hx; omega, by rw [hn]; show (n : Int) = (ms.length : Int); rw [ml]⟩, by omega, by show ms.length ≤ 60; omega, sl, mb, msb, ssb, hh.ok⟩
    have h0 : HarmB (.mis []) := ⟨by simp, fun j hj => nomatch hj⟩
    have i0 := ok _ h0
    repeat' walk_at "yy"
    refine c_Q (.cons (.cons (.cons .nil))) _ ⟨LD D S, m, ms, row, ss, rfl, z, i0.sm, i0.rw, by omega, sl, fun x hx => (ssb x hx).up (by decide), rfl⟩ fun r er => ?_
    subst er
    repeat' walk_at "yy"
    refine c_D (.cons (.cons (.cons .nil))) _ ⟨c, D, S, lo, most, le, data, many, spare, row, hears row ⟨m, ms, ss, .mis []⟩, rfl, hk, hf, hb, by omega, hears_len i0, hears_bd5 i0, srt_asc _, rfl⟩ fun y C3 ⟨h, hy, hh⟩ => ?_
    subst hy
    repeat' walk_at "yy"
    exact ⟨⟨C3, [], rfl⟩, some ⟨m, ms, ss, h⟩, rfl, ok h hh⟩
theorem ok_l_reel_and_night (B : Bt mg) (D_l_slot : Has P w K mg base 10 "_law_slot" ["bag", "form"] (SpD K rSlotD)) (D_l_item : Has P w K mg base 6 "_law_item" ["bag", "form", "slot"] (SpD K rItemL)) (D_l_take : Has P w K mg base 1 "_law_take" ["bag", "many"] (SpD K rTake)) (T : Stands K mg "_law_reel_and_night" s_l_reel_and_night ["bag", "form", "most"]) : Has P w K mg base 11 "_law_reel_and_night" ["bag", "form", "most"] (SpD K rReelN) := by
  refine hasD T sc_l_reel_and_night (fun ds po ⟨c, D, S, lo, most, le, data, many, spare, e, _⟩ => by rw [e]; rfl) 3 rfl fun f cdv A outer s H E g hr => ⟨_, (pss_cons (ps_set (i := 3) sc_l_reel_and_night.nd rfl (by first | exact .inl rfl | exact .inr rfl) (pe_callTy call_tuple_of (by rfl) B.b_tuple (by decide +kernel) (pa_cons (pe_lc (own := [("step", 4)]) (g := gName 4) (tt := tYes) rfl sc_l_reel_and_night.nd (pi_range1 (by rfl) B.b_range (pa_cons (pe_op op_add pe_int (peD D_l_take g hr (by first | decide | exact Nat.le_refl _ | omega) (by rfl) (pa_cons (pv 0) (pa_cons (pv 2) pa_nil)))) pa_nil)) (blkOk_by (N := N_l_reel_and_night) (sc := defScope s_l_reel_and_night) (by decide +kernel)) (fun _ _ _ _ _ => (pg_name (i := 4) sc_l_reel_and_night.nd rfl (by first | exact .inl rfl | exact .inr rfl))) (fun _ _ _ _ _ => pts_nil) (fun _ _ _ _ _ => (peD D_l_slot g hr (by first | decide | exact Nat.le_refl _ | omega) (by rfl) (pa_cons (pv 0) (pa_cons (pv 1) pa_nil))))) pa_nil)))
      (pss_one (ps_ret (pe_tup (pa_cons (pv 3) (pa_cons (pe_callTy call_tuple_of (by rfl) B.b_tuple (by decide +kernel) (pa_cons (pe_lc (own := [("slot", 5)]) (g := gName 5) (tt := tYes) rfl sc_l_reel_and_night.nd (pi_tup (pv 3)) (blkOk_by (N := N_l_reel_and_night) (sc := defScope s_l_reel_and_night) (by decide +kernel)) (fun _ _ _ _ _ => (pg_name (i := 5) sc_l_reel_and_night.nd rfl (by first | exact .inl rfl | exact .inr rfl))) (fun _ _ _ _ _ => pts_nil) (fun _ _ _ _ _ => (peD D_l_item g hr (by first | decide | exact Nat.le_refl _ | omega) (by rfl) (pa_cons (pv 0) (pa_cons (pv 1) (pa_cons (pv 5) pa_nil)))))) pa_nil)) pa_nil)))))), ?_⟩
  try dsimp only [cxOf]
  rintro b C ds po ⟨c, D, S, lo, most, le, data, many, spare, rfl, hk, hf, rfl⟩
  repeat' walk_at "yy"
  refine ev_lc (own_name (by decide)) ?_
  repeat' walk_at "yy"
  · decide
  · show _ < _; decide
  intro v C1 v0 v1
  repeat' walk_at "yy"
  refine ⟨by omega, ?_⟩
  refine ⟨fun k acc M => ∃ (C' : Bag) (reel : List OptRow), acc = reel.map slotD ∧ reel.length = k ∧ (∀ q, some q ∈ reel → Beg lo most le (data : Int) q) ∧ M = [(b, .lst (Bag.ds C'))], ⟨C1, [], rfl, rfl, (fun q hq => nomatch hq), rfl⟩, fun k d acc M hd e => ?_, fun acc M e => ?_⟩
  · obtain ⟨C', reel, rfl, hl, hbg, rfl⟩ := e
    obtain ⟨hkn, rfl⟩ := rgD_at hd
    refine ⟨by rw [List.length_map]; omega, ?_⟩
    repeat' (first | exact absurd ‹true = false› (by decide) | walk_at "yy")
    refine c_D (.cons .nil) _ ⟨c, D, S, lo, most, le, data, many, spare, rfl, hk, hf, rfl⟩ fun y C4 ⟨o, hy, ho⟩ => ?_
    subst hy
    refine ⟨_, rfl, C4, reel ++ [o], by rw [List.map_append]; rfl, by rw [List.length_append, hl]; rfl, fun q hq => ?_, rfl⟩
    rcases List.mem_append.mp hq with hq | hq
    · exact hbg q hq
    · exact ho q (List.mem_singleton.mp hq).symm
  obtain ⟨C5, reel, rfl, hl, hbg, rfl⟩ := e
  rw [rgD_len] at hl
  have hl4 : reel.length ≤ 4 := by omega
  repeat' (first | refine c_tuple (.lst _) ?_ | walk_at "yy")
  refine ev_lc (own_name (by decide)) ?_
  repeat' walk_at "yy"
  refine ⟨fun k acc M => ∃ (C' : Bag) (night : List (Option Item)), acc = night.map (itemD (LD D S)) ∧ night.length = k ∧ (∀ p ∈ (reel.take k).zip night, NOk p.1 p.2) ∧ M = [(b, .lst (Bag.ds C'))], ⟨C5, [], rfl, rfl, (fun p hp => by simp at hp), rfl⟩, fun k d acc M hd e => ?_, fun acc M e => ?_⟩
  · obtain ⟨C', night, rfl, nl, hno, rfl⟩ := e
    obtain ⟨o, ho, rfl⟩ := map_at hd
    have hkl := (List.getElem?_eq_some_iff.mp ho).1
    refine ⟨by rw [List.length_map]; omega, ?_⟩
    repeat' (first | exact absurd ‹true = false› (by decide) | walk_at "yy")
    refine c_D (.cons (.cons .nil)) _ ⟨c, D, S, lo, most, le, data, many, spare, o, rfl, hk, hf, fun q e => hbg q (e ▸ List.mem_of_getElem? ho), rfl⟩ fun y C4 ⟨i, hy, hi⟩ => ?_
    subst hy
    refine ⟨_, rfl, C4, night ++ [i], by rw [List.map_append]; rfl, by rw [List.length_append, nl]; rfl, fun p hp => ?_, rfl⟩
    rw [take_snoc ho, List.zip_append (by rw [List.length_take]; omega)] at hp
    rcases List.mem_append.mp hp with hp | hp
    · exact hno p hp
    · rw [List.mem_singleton.mp hp]
      exact hi
  obtain ⟨C6, night, rfl, nl, hno, rfl⟩ := e
  rw [List.length_map] at nl hno
  rw [List.take_length] at hno
  repeat' (first | refine c_tuple (.lst _) ?_ | walk_at "yy")
  exact ⟨⟨C6, [], rfl⟩, reel, night, rfl, hl4, nl.symm, hno, hbg⟩
end
end K34

set_option Elab.async false
set_option linter.all false
set_option maxRecDepth 100000
set_option maxHeartbeats 1000000
set_option exponentiation.threshold 20000
namespace K34
open PySem PySem.Spec PyProof.Rows L2 Yw
local macro_rules | `(tactic| walk_at "ye") => `(tactic| first
  | ((with_reducible show Ev _ (tVar _) _ _ _); first | refine ev_dat rfl ?_ | refine ev_ref rfl ?_ | refine ev_var rfl (fun z => nomatch z) ?_)
  | ((with_reducible show Ev _ (tC _) _ _ _); first | with_reducible refine ev_int ?_ | with_reducible refine ev_bl ?_ | with_reducible refine ev_non ?_ | with_reducible refine ev_str ?_ | with_reducible refine ev_ty ?_)
  | with_reducible refine ev_op ?_
  | with_reducible refine ev_un ?_
  | with_reducible refine ev_go ?_
  | with_reducible refine ev_cb ?_
  | with_reducible refine ev_tupD ?_
  | with_reducible refine ev_lstD ?_
  | with_reducible refine ev_chain ?_
  | with_reducible refine ev_if ?_
  | with_reducible refine ev_andV ?_
  | with_reducible refine ev_orV ?_
  | with_reducible refine ev_notV ?_
  | with_reducible refine ev_sl ?_
  | with_reducible refine ev_bm ?_)
local macro_rules | `(tactic| walk_at "ya") => `(tactic| first
  | with_reducible refine ea_cons ?_
  | with_reducible refine ea_nil ?_
  | with_reducible refine eo_none ?_
  | with_reducible refine eo_some ?_
  | with_reducible refine et_test ?_
  | with_reducible refine et_B ?_
  | with_reducible refine et_and ?_
  | with_reducible refine et_or ?_
  | with_reducible refine et_not ?_
  | with_reducible refine et_yes ?_
  | with_reducible refine tg_name ?_
  | with_reducible refine tgs_nil ?_
  | with_reducible refine tgs_cons ?_
  | ((with_reducible show Tg _ (gTup _ _ _) _ _ _ _); refine tg_tup rfl ?_)
  | with_reducible refine tg_sub ?_)
local macro_rules | `(tactic| walk_at "ys") => `(tactic| first
  | with_reducible refine sj_seq ?_
  | with_reducible refine sj_next ?_
  | with_reducible refine sj_newD ?_
  | with_reducible refine sj_set ?_
  | with_reducible refine sj_par ?_
  | with_reducible refine sj_ret ?_
  | with_reducible refine sj_drop ?_
  | with_reducible refine sj_if ?_
  | with_reducible refine sj_asg ?_
  | with_reducible refine sj_augS ?_
  | with_reducible refine iw_seq ?_
  | with_reducible refine iw_zip ?_
  | with_reducible refine iw_list ?_
  | with_reducible refine iw_tup ?_
  | with_reducible refine iw_r1 ?_
  | with_reducible refine iw_r2 ?_
  | with_reducible refine iw_enumT ?_)
local macro_rules | `(tactic| walk_at "yo") => `(tactic| first
  | with_reducible refine o_int ?_
  | with_reducible refine o_bool ?_
  | with_reducible refine o_mul (by first | exact mulR ⟨by decide, by decide⟩ | exact mulL ⟨by decide, by decide⟩) ?_
  | with_reducible refine o_mul ?_ ?_
  | with_reducible refine o_mod (by decide) ?_
  | with_reducible refine o_mod ?_ ?_
  | with_reducible refine o_div (by decide) (by decide +kernel) ?_
  | with_reducible refine o_cat ?_ ?_
  | with_reducible refine o_catT ?_ ?_
  | ((with_reducible show Op2 _ (rIxL _) (Ent.ref _) _ _ _); refine o_ixM (List.Mem.head _) rfl ?_)
  | with_reducible refine o_eqI ?_
  | with_reducible refine o_neI ?_
  | with_reducible refine o_eqS ?_
  | with_reducible refine o_neS ?_
  | with_reducible refine o_neg ?_
  | ((with_reducible show Op2 _ (rIxT _) _ _ _ _); refine o_ixT rfl ?_)
  | ((with_reducible show Op2 _ (rIxL _) (Ent.dat _) _ _ _); refine o_ixL rfl ?_)
  | ((with_reducible show Op2 _ (rI CPow _) _ _ _ _); refine o_pow ⟨by decide, by decide, by decide⟩ rfl ?_)
  | with_reducible refine c_abs ?_
  | with_reducible refine c_int ?_
  | with_reducible refine c_min2 ?_
  | with_reducible refine c_max2 ?_
  | with_reducible refine c_gcd ?_
  | with_reducible refine sl_L ?_
  | with_reducible refine c_len (.lst _) ?_
  | with_reducible refine c_len (.tup _) ?_)
local macro_rules | `(tactic| walk_at "yx") => `(tactic| first
  | with_reducible refine ⟨_, rfl, ?_⟩
  | with_reducible refine ⟨_, _, rfl, ?_⟩
  | with_reducible refine ⟨fun _ => ?_, fun _ => ?_⟩
  | ((with_reducible show ∃ _ _ _ _ _ _, _ = _ ∧ _ = _ ∧ _ = _ ∧ _ = _ ∧ _); refine ⟨[], _, _, _, _, _, rfl, rfl, rfl, rfl, ?_⟩)
  | ((with_reducible show ∃ _ _ _ _ _, _ = _ ∧ _ = _ ∧ _ ∧ _ ∧ _ ∧ _ = _ ∧ _ = _ ∧ _); refine ⟨_, _, _, _, _, rfl, rfl, List.Mem.head _, by decide, by decide, rfl, rfl, ?_⟩)
  | ((with_reducible show ∃ _ _ _, _ = _ ∧ _ = _ ∧ _); refine ⟨[], _, _, rfl, rfl, ?_⟩)
  | ((with_reducible show ∃ _, Ds _ _ ∧ _ ∧ _); refine ⟨_, (by repeat (first | exact Ds.nil | apply Ds.cons)), (by simp), ?_⟩))
local macro_rules | `(tactic| walk_at "yy") => `(tactic| first | walk_at "ye" | walk_at "ya" | walk_at "ys" | walk_at "yo" | walk_at "yx" | walk_at "yc")

local macro_rules | `(tactic| walk_at "yc") => `(tactic| first | with_reducible refine c_take ?_ ?_ ?_ | with_reducible refine iw_zip3 ?_ | with_reducible refine ev_revT ?_)
theorem wt_hs {L : Int} {hs : List Int} {n : Nat} (p : 0 < L) (hL : Bd 730 L) (hb : ∀ x ∈ hs, Bd 730 x) (hl : hs.length ≤ n) : Wt (n * 1471 + 3) 2 (.tuple (qs L hs)) :=
  Wt.tup (w := 1469) (dp := 1) (fun d hd => by
    obtain ⟨q, hq, rfl⟩ := List.mem_map.mp (show d ∈ (hs.map (qv L)).map frq from hd)
    obtain ⟨m, hm, rfl⟩ := List.mem_map.mp hq
    exact wt_frK (k := 730) (by decide) (by decide) (qv_fq p hL (hb m hm))) (by rw [qs_len]; exact hl)
theorem wt_intsS {js : List Int} {n : Nat} (hb : ∀ j ∈ js, j.natAbs < 2 ^ 10) (hl : js.length ≤ n) : Wt (n * 13 + 3) 1 (.tuple (js.map .int)) :=
  Wt.tup (w := 11) (dp := 0) (fun d hd => by
    obtain ⟨x, hx, rfl⟩ := List.mem_map.mp hd
    exact Wt.intK (k := 10) (by decide) (by decide) (hb x hx)) (by rw [List.length_map]; exact hl)
theorem wt_strC : Wt 30 0 (.str (Str.ofString "clicks")) := by
  refine ⟨by simp only [PyData.canLay0]; decide +kernel, by simp [PyData.depth], by simp [PyData.showable], ?_⟩
  simp only [PyData.shown]
  decide +kernel
theorem wt_strM : Wt 30 0 (.str (Str.ofString "missed")) := by
  refine ⟨by simp only [PyData.canLay0]; decide +kernel, by simp [PyData.depth], by simp [PyData.showable], ?_⟩
  simp only [PyData.shown]
  decide +kernel
theorem wt_two {a b : Nat} {d e : PyData} {w dp : Nat} (h1 : Wt a b d) (h2 : Wt w dp e) (ha : a ≤ w) (hb : b ≤ dp) : Wt (2 * (w + 2) + 3) (dp + 1) (.tuple [d, e]) :=
  Wt.tup (n := 2) (fun x hx => by
    rcases List.mem_cons.mp hx with rfl | hx
    · exact h1.up ha hb
    · rw [List.mem_singleton.mp hx]; exact h2) (by simp)
theorem wt_harm {L : Int} {h : Harm} (z : Sz L) (hk : HarmOk h) : Wt 50000 4 (hD L h) := by
  cases h with
  | mis js =>
    refine (wt_two wt_strM (wt_intsS (n := 300) (fun j hj => by have := hk.2 j hj; show j.natAbs < 1024; omega) hk.1) (by decide) (by decide)).up (by decide) (by decide)
  | cli ws =>
    refine (wt_two wt_strC (wt_qs z (fun m hm => (hk.2.2 m hm).up (by decide)) hk.1) (by decide) (by decide)).up (by decide) (by decide)
theorem wt_item {L : Int} {o : OptRow} {i : Option Item} (z : Sz L) (h : NOk o i) : Wt 1400000 6 (itemD L i) := by
  match o, i, h with
  | none, none, _ => exact Wt.non.up (by decide) (by decide)
  | some r, some i, h =>
    have h : ItemOk r i := h
    have w1 : Wt 462133 4 (telD L i.m i.ms) := (wt_two (wt_qv z (h.bm.up (by decide))) (wt_qs z (fun m hm => (h.bs m hm).up (by decide)) h.ml) (by decide) (by decide)).up (by decide) (by decide)
    have w2 : Wt 462133 4 (.tuple (qs L i.ss)) := (wt_qs (n := 61) z (fun m hm => (h.bb m hm).up (by decide)) (by have := h.sl; have := h.rl; omega)).up (by decide) (by decide)
    have w3 : Wt 462133 4 (hD L i.h) := (wt_harm z h.hk).up (by decide) (by decide)
    have w : Wt (3 * (462133 + 2) + 3) 5 (.tuple [telD L i.m i.ms, .tuple (qs L i.ss), hD L i.h]) := Wt.tup (n := 3) (fun x hx => by
      simp only [List.mem_cons, List.not_mem_nil, or_false] at hx
      rcases hx with rfl | rfl | rfl
      · exact w1
      · exact w2
      · exact w3) (by simp)
    exact w.up (by decide) (by decide)
theorem wt_slot {o : OptRow} (h : ∀ q, o = some q → q.length ≤ 60 ∧ ∀ x ∈ q, x.natAbs < 2 ^ 10) : Wt 1400000 6 (slotD o) := by
  cases o with
  | none => exact Wt.non.up (by decide) (by decide)
  | some q => exact (wt_intsS (h q rfl).2 (h q rfl).1).up (by decide) (by decide)
theorem zip_mem_of {α β : Type} {as : List α} {bs : List β} {k : Nat} {b : β} (hl : as.length = bs.length) (h : bs[k]? = some b) : ∃ a, as[k]? = some a ∧ (as.zip bs)[k]? = some (a, b) := by
  have hk := (List.getElem?_eq_some_iff.mp h).1
  have ha := List.getElem?_eq_getElem (show k < as.length by omega)
  exact ⟨_, ha, by rw [List.getElem?_zip_eq_some]; exact ⟨ha, h⟩⟩
/-- the reel and the night, as they are shown -/
theorem wt_shown {L : Int} {reel : List OptRow} {night : List (Option Item)} (z : Sz L) (hl : reel.length ≤ 4) (he : reel.length = night.length) (hn : ∀ p ∈ reel.zip night, NOk p.1 p.2) (hr : ∀ q, some q ∈ reel → q.length ≤ 60 ∧ ∀ x ∈ q, x.natAbs < 2 ^ 10) : Wt 12000000 10 (.list [.tuple (reel.map slotD), .list (night.map (itemD L))]) := by
  have w1 : Wt (4 * 1400002 + 3) 7 (.tuple (reel.map slotD)) := Wt.tup (fun d hd => by
    obtain ⟨o, ho, rfl⟩ := List.mem_map.mp hd
    exact wt_slot fun q e => hr q (e ▸ ho)) (by rw [List.length_map]; exact hl)
  have w2 : Wt (4 * 1400002 + 3) 7 (.list (night.map (itemD L))) := Wt.list (fun d hd => by
    obtain ⟨i, hi, rfl⟩ := List.mem_map.mp hd
    obtain ⟨k, hk⟩ := List.getElem?_of_mem hi
    obtain ⟨o, _, hz⟩ := zip_mem_of he hk
    exact wt_item z (hn _ (List.mem_of_getElem? hz))) (by rw [List.length_map]; omega)
  have w : Wt (2 * (4 * 1400002 + 3 + 2) + 3) 8 (.list [.tuple (reel.map slotD), .list (night.map (itemD L))]) := Wt.list (n := 2) (fun x hx => by
    simp only [List.mem_cons, List.not_mem_nil, or_false] at hx
    rcases hx with rfl | rfl
    · exact w1
    · exact w2) (by simp)
  exact w.up (by decide) (by decide)
def fullT (tot : Int) (reel : List OptRow) (k : Nat) : List Int := (List.range k).filterMap fun (i : Nat) => match reel[i]? with
  | some o => if fullO tot o then some (i : Int) else none
  | none => none
theorem fullT_snoc {tot : Int} {reel : List OptRow} {k : Nat} {o : OptRow} (h : reel[k]? = some o) : fullT tot reel (k + 1) = fullT tot reel k ++ (if fullO tot o then [(k : Int)] else []) := by
  unfold fullT
  rw [List.range_succ, List.filterMap_append]
  congr 1
  simp only [List.filterMap_cons, List.filterMap_nil, h]
  by_cases c : fullO tot o = true
  · rw [if_pos c, if_pos c]
  · rw [if_neg c, if_neg c]
theorem fullT_len (tot : Int) (reel : List OptRow) (k : Nat) : (fullT tot reel k).length ≤ k := by
  unfold fullT
  exact Nat.le_trans (List.length_filterMap_le _ _) (by rw [List.length_range]; exact Nat.le_refl _)
theorem fullT_mem {tot : Int} {reel : List OptRow} {k : Nat} {a : Int} (h : a ∈ fullT tot reel k) : ∃ (i : Nat) (r : List Int), a = (i : Int) ∧ reel[i]? = some (some r) := by
  unfold fullT at h
  obtain ⟨i, _, hi⟩ := List.mem_filterMap.mp h
  cases e : reel[i]? with
  | none => rw [e] at hi; cases hi
  | some o =>
    rw [e] at hi
    by_cases c : fullO tot o = true
    · simp only [c, if_true] at hi
      cases o with
      | none => cases c
      | some r => exact ⟨i, r, (Option.some.inj hi).symm, e⟩
    · simp only [c] at hi
      cases hi
theorem wholeT_mem {tot : Int} {zs : List (OptRow × Option Item)} {k : Nat} {a : Int} (h : a ∈ wholeT tot zs k) : ∃ i : Nat, i < k ∧ a = (i : Int) := by
  unfold wholeT at h
  obtain ⟨i, hi, e⟩ := List.mem_filterMap.mp h
  refine ⟨i, List.mem_range.mp hi, ?_⟩
  cases ez : zs[i]? with
  | none => rw [ez] at e; cases e
  | some p =>
    rw [ez] at e
    by_cases c : (fullO tot p.1 && harm0 p.2) = true
    · simp only [c, if_true] at e
      exact (Option.some.inj e).symm
    · simp only [c] at e
      cases e
def cleanA (night : List (Option Item)) (a : Int) : Bool := match night[a.toNat]? with
  | some i => harm0 i
  | none => false
theorem whole_eq {tot : Int} {reel : List OptRow} {night : List (Option Item)} (he : reel.length = night.length) : ∀ k, k ≤ reel.length → (fullT tot reel k).filter (cleanA night) = wholeT tot (reel.zip night) k
  | 0, _ => rfl
  | k + 1, hk => by
    have ih := whole_eq (tot := tot) he k (by omega)
    have hr := List.getElem?_eq_getElem (show k < reel.length by omega)
    have hn := List.getElem?_eq_getElem (show k < night.length by omega)
    generalize reel[k] = o at hr
    generalize night[k] = i at hn
    have hz : (reel.zip night)[k]? = some (o, i) := by rw [List.getElem?_zip_eq_some]; exact ⟨hr, hn⟩
    rw [fullT_snoc hr, wholeT_snoc hz, List.filter_append, ih]
    congr 1
    have hc : cleanA night (k : Int) = harm0 i := by
      show (match night[k]? with | some i => harm0 i | none => false) = _
      rw [hn]
    by_cases c : fullO tot o = true
    · rw [if_pos c, c, List.filter_cons, hc]
      simp
    · rw [if_neg c]
      have c : fullO tot o = false := by simpa using c
      rw [c]
      rfl
theorem filter_snoc {f : Int → Bool} {l : List Int} {k : Nat} {x : Int} (h : l[k]? = some x) : (l.take (k + 1)).filter f = (l.take k).filter f ++ (if f x then [x] else []) := by
  rw [take_snoc h, List.filter_append, List.filter_cons]
  rfl
theorem heard_bd {o : OptRow} {i : Option Item} (h : NOk o i) : ∀ x ∈ heardL o i, Bd 730 x := fun x hx => by
  match o, i, h with
  | none, none, _ => exact nomatch hx
  | some r, some i, h =>
    have hb := hears_bd (i := i) (row := r) h
    have hk := (show ItemOk r i from h).hk
    have hx : x ∈ hF i.h (hears r i) := hx
    cases e : i.h with
    | mis js =>
      rw [e] at hx
      exact hb x (missF_mem hx)
    | cli ws =>
      rw [e] at hx hk
      rcases List.mem_append.mp (srt_mem hx) with hx | hx
      · exact hb x hx
      · exact hk.2.2 x hx
theorem heard_short {o : OptRow} {i : Option Item} (h : NOk o i) (hr : ∀ q, o = some q → q.length ≤ 43) : (heardL o i).length ≤ 47 := by
  match o, i, h with
  | none, none, _ => exact Nat.zero_le _
  | some r, some i, h =>
    have l := hears_len (i := i) (row := r) h
    have rl := hr r rfl
    show (hF i.h (hears r i)).length ≤ 47
    have hk := (show ItemOk r i from h).hk
    cases e : i.h with
    | mis js =>
      have := missT_len js (hears r i) (hears r i).length
      show (missF js (hears r i)).length ≤ 47
      unfold missF
      omega
    | cli ws =>
      rw [e] at hk
      have := hk.1
      show (srt (hears r i ++ ws)).length ≤ 47
      rw [srt_len, List.length_append]
      omega
theorem wt_told {L : Int} {H : List (List Int)} {js : List Int} (p : 0 < L) (hL : Bd 730 L) (hb : ∀ hs ∈ H, hs.length ≤ 47 ∧ ∀ x ∈ hs, Bd 730 x) (hl : H.length ≤ 4) (jl : js.length ≤ 4) (jb : ∀ j ∈ js, j.natAbs < 2 ^ 10) : Wt 1000000 20 (.list [.tuple (H.map (hsD L)), .tuple (H.reverse.map fun hs => hsD L (hs.reverse.map fun x => -x)), .tuple (js.map .int)]) := by
  have w1 : Wt (4 * (47 * 1471 + 3 + 2) + 3) 3 (.tuple (H.map (hsD L))) := Wt.tup (fun d hd => by
    obtain ⟨hs, hm, rfl⟩ := List.mem_map.mp hd
    exact wt_hs p hL (hb hs hm).2 (hb hs hm).1) (by rw [List.length_map]; exact hl)
  have w2 : Wt (4 * (47 * 1471 + 3 + 2) + 3) 3 (.tuple (H.reverse.map fun hs => hsD L (hs.reverse.map fun x => -x))) := Wt.tup (fun d hd => by
    obtain ⟨hs, hm, rfl⟩ := List.mem_map.mp hd
    obtain ⟨a, b⟩ := hb hs (List.mem_reverse.mp hm)
    exact wt_hs p hL (fun x hx => by
      obtain ⟨y, hy, rfl⟩ := List.mem_map.mp hx
      exact (b y (List.mem_reverse.mp hy)).neg) (by rw [List.length_map, List.length_reverse]; exact a)) (by rw [List.length_map, List.length_reverse]; exact hl)
  have w3 : Wt (4 * (47 * 1471 + 3 + 2) + 3) 3 (.tuple (js.map .int)) := (wt_intsS jb jl).up (by decide) (by decide)
  have w : Wt (3 * (4 * (47 * 1471 + 3 + 2) + 3 + 2) + 3) 4 (.list [.tuple (H.map (hsD L)), .tuple (H.reverse.map fun hs => hsD L (hs.reverse.map fun x => -x)), .tuple (js.map .int)]) := Wt.list (n := 3) (fun x hx => by
    simp only [List.mem_cons, List.not_mem_nil, or_false] at hx
    rcases hx with rfl | rfl | rfl
    · exact w1
    · exact w2
    · exact w3) (by simp)
  exact w.up (by decide) (by decide)
section
variable {P : Program} {w : World} {K : PySem.W.Frag} {mg : Str → Option Value} {base : Heap}
theorem ok_law {fl : Addr} {fd : FuncData} (B : Bt mg) (D_l_bag : Has P w K mg base 1 "_law_bag" ["script"] (SpN K)) (D_l_form : Has P w K mg base 9 "_law_form" ["bag", "bounds", "most"] (SpD K rFormD)) (D_l_reel_and_night : Has P w K mg base 11 "_law_reel_and_night" ["bag", "form", "most"] (SpD K rReelN)) (D_l_bounds : Has P w K mg base 9 "_law_bounds" ["bag", "most"] (SpD K rBoundsQ)) (D_l_alike : Has P w K mg base 1 "_law_alike" ["found", "due"] (SpQ K rAlike)) (D_heard_reel : Has P w K mg base 14 "heard_reel" ["reel", "night"] (SpQ K rHeardReel)) (D_heard_reel_back : Has P w K mg base 15 "heard_reel_back" ["reel", "night"] (SpQ K rHeardBack)) (D_whole_slots : Has P w K mg base 6 "whole_slots" ["form", "reel", "night"] (SpQ K rWholeS)) (D_l_clicks : Has P w K mg base 4 "_law_clicks" ["bag", "hearing"] (SpD K rClicks)) (D_l_heard : Has P w K mg base 6 "_law_heard" ["slot", "one"] (SpQ K rLHeard)) (D_l_take : Has P w K mg base 1 "_law_take" ["bag", "many"] (SpD K rTake)) (D_l_hearing : Has P w K mg base 5 "_law_hearing" ["telling", "row", "shifts"] (SpQ K rHearS)) (D_l_is_full : Has P w K mg base 2 "_law_is_full" ["form", "slot"] (SpQ K rLFull)) (D_l_some : Has P w K mg base 2 "_law_some" ["bag", "things"] (SpD K rSome)) (D_heard_slot : Has P w K mg base 13 "heard_slot" ["slot", "one"] (SpQ K rHeardSlot)) (D_l_back : Has P w K mg base 1 "_law_back" ["hearing"] (SpQ K rBackS)) (F : Fun K "law" "law" s_law fl fd) : FnG P w K mg base 17 fl fd ["script"] (SpLaw K) := by
  refine hasLawF F sc_law 15 rfl fun f cdv A outer s H E g hr => ⟨_, (pss_cons (ps_set (i := 1) sc_law.nd rfl (by first | exact .inl rfl | exact .inr rfl) (peD D_l_bag g hr (by first | decide | exact Nat.le_refl _ | omega) (by rfl) (pa_cons (pv 0) pa_nil)))
      (pss_cons (ps_for PassesOwn.never rfl (pi_range1 (by rfl) B.b_range (pa_cons pe_int pa_nil)) (pg_name (i := 2) sc_law.nd rfl (by first | exact .inl rfl | exact .inr rfl)) (pss_cons (ps_set (i := 3) sc_law.nd rfl (by first | exact .inl rfl | exact .inr rfl) (peD D_l_form g hr (by first | decide | exact Nat.le_refl _ | omega) (by rfl) (pa_cons (pv 1) (pa_cons (peD D_l_bounds g hr (by first | decide | exact Nat.le_refl _ | omega) (by rfl) (pa_cons (pv 1) (pa_cons pe_int pa_nil))) (pa_cons pe_int pa_nil)))))
      (pss_cons (ps_if (pt_not (pt_val (peD D_l_alike g hr (by first | decide | exact Nat.le_refl _ | omega) (by rfl) (pa_cons (pe_lst (pa_cons (peD D_heard_reel g hr (by first | decide | exact Nat.le_refl _ | omega) (by rfl) (pa_cons (pe_tup pa_nil) (pa_cons (pe_tup pa_nil) pa_nil))) (pa_cons (peD D_heard_reel_back g hr (by first | decide | exact Nat.le_refl _ | omega) (by rfl) (pa_cons (pe_tup pa_nil) (pa_cons (pe_tup pa_nil) pa_nil))) (pa_cons (peD D_whole_slots g hr (by first | decide | exact Nat.le_refl _ | omega) (by rfl) (pa_cons (pv 3) (pa_cons (pe_tup pa_nil) (pa_cons (pe_tup pa_nil) pa_nil)))) pa_nil)))) (pa_cons (pe_lst (pa_cons (pe_tup pa_nil) (pa_cons (pe_tup pa_nil) (pa_cons (pe_tup pa_nil) pa_nil)))) pa_nil))))) (pss_one (ps_ret pe_bl)) pss_nil)
      (pss_cons (ps_asg (peD D_l_reel_and_night g hr (by first | decide | exact Nat.le_refl _ | omega) (by rfl) (pa_cons (pv 1) (pa_cons (pv 3) (pa_cons pe_int pa_nil)))) (pg_tup rfl (pgs_cons (pg_name (i := 4) sc_law.nd rfl (by first | exact .inl rfl | exact .inr rfl)) (pgs_cons (pg_name (i := 5) sc_law.nd rfl (by first | exact .inl rfl | exact .inr rfl)) pgs_nil))))
      (pss_cons (ps_set (i := 6) sc_law.nd rfl (by first | exact .inl rfl | exact .inr rfl) (pe_lst pa_nil))
      (pss_cons (ps_for PassesOwn.never rfl (RZ.pi_zipA (by rfl) B.b_zip (pa_cons (pv 4) (pa_cons (pv 5) pa_nil))) (pg_tup rfl (pgs_cons (pg_name (i := 7) sc_law.nd rfl (by first | exact .inl rfl | exact .inr rfl)) (pgs_cons (pg_name (i := 8) sc_law.nd rfl (by first | exact .inl rfl | exact .inr rfl)) pgs_nil))) (pss_cons (ps_if (PW.pt (pw_and (pt_cmpR op_notN (pv 7) pe_non (nomark _)) (pw_and1 (pt_cmpR op_eq (peD D_l_take g hr (by first | decide | exact Nat.le_refl _ | omega) (by rfl) (pa_cons (pv 1) (pa_cons pe_int pa_nil))) pe_int (nomark _))))) (pss_cons (ps_set (i := 9) sc_law.nd rfl (by first | exact .inl rfl | exact .inr rfl) (peD D_l_clicks g hr (by first | decide | exact Nat.le_refl _ | omega) (by rfl) (pa_cons (pv 1) (pa_cons (peD D_l_hearing g hr (by first | decide | exact Nat.le_refl _ | omega) (by rfl) (pa_cons (pe_ix ix_tup (pv 8) pe_int (fun _ _ => rfl)) (pa_cons (pv 7) (pa_cons (pe_ix ix_tup (pv 8) pe_int (fun _ _ => rfl)) pa_nil)))) pa_nil))))
      (pss_one (ps_set (i := 8) sc_law.nd rfl (by first | exact .inl rfl | exact .inr rfl) (pe_op op_catA (pe_slice sl_tupA (pv 8) po_none (po_some pe_int)) (pe_tup (pa_cons (peD D_l_some g hr (by first | decide | exact Nat.le_refl _ | omega) (by rfl) (pa_cons (pv 1) (pa_cons (pe_lst (pa_cons (pe_tup (pa_cons pe_str (pa_cons (pe_tup (pa_cons pe_int pa_nil)) pa_nil))) (pa_cons (pe_tup (pa_cons pe_str (pa_cons (pv 9) pa_nil))) (pa_cons (pe_tup (pa_cons pe_str (pa_cons (pe_tup pa_nil) pa_nil))) pa_nil)))) pa_nil))) pa_nil)))))) pss_nil)
      (pss_one (ps_expr (pe_bm PySem.F.plainAttrs_list PySem.F.slot_list_append PySem.F.type_list_append mt_append (pv 6) (pa_cons (pv 8) pa_nil))))))
      (pss_cons (ps_asg (pe_tup (pa_cons (pe_callTy call_tuple_of (by rfl) B.b_tuple (by decide +kernel) (pa_cons (pv 6) pa_nil)) (pa_cons (pe_callB (call_show g (room66 hr)) (by rfl) B.b_repr (by decide +kernel) (pa_cons (pe_lst (pa_cons (pv 4) (pa_cons (pv 6) pa_nil))) pa_nil)) pa_nil))) (pg_tup rfl (pgs_cons (pg_name (i := 5) sc_law.nd rfl (by first | exact .inl rfl | exact .inr rfl)) (pgs_cons (pg_name (i := 10) sc_law.nd rfl (by first | exact .inl rfl | exact .inr rfl)) pgs_nil))))
      (pss_cons (ps_set (i := 11) sc_law.nd rfl (by first | exact .inl rfl | exact .inr rfl) (pe_callTy call_tuple_of (by rfl) B.b_tuple (by decide +kernel) (pa_cons (pe_lc (own := [("slot", 7), ("one", 8)]) (g := gTup _ 2 (gCons (gName 7) (gCons (gName 8) (gNil)))) (tt := tYes) rfl sc_law.nd (RZ.pi_zipA (by rfl) B.b_zip (pa_cons (pv 4) (pa_cons (pv 5) pa_nil))) (blkOk_by (N := N_law) (sc := defScope s_law) (by decide +kernel)) (fun _ _ _ _ _ => (pg_tup rfl (pgs_cons (pg_name (i := 7) sc_law.nd rfl (by first | exact .inl rfl | exact .inr rfl)) (pgs_cons (pg_name (i := 8) sc_law.nd rfl (by first | exact .inl rfl | exact .inr rfl)) pgs_nil)))) (fun _ _ _ _ _ => pts_nil) (fun _ _ _ _ _ => (peD D_l_heard g hr (by first | decide | exact Nat.le_refl _ | omega) (by rfl) (pa_cons (pv 7) (pa_cons (pv 8) pa_nil))))) pa_nil)))
      (pss_cons (ps_setLc (i := 12) (own := [("at", 16), ("slot", 7)]) (g := gTup _ 2 (gCons (gName 16) (gCons (gName 7) (gNil)))) (tt := _) rfl sc_law.nd rfl rfl (sw_true rfl rfl rfl (by decide +kernel)) (pi_enumT (by rfl) B.b_enumerate (pa_cons (pv 4) pa_nil)) (blkOk_by (N := N_law) (sc := defScope s_law) (by decide +kernel)) (fun _ _ _ _ _ => (pg_tup rfl (pgs_cons (pg_name (i := 16) sc_law.nd rfl (by first | exact .inl rfl | exact .inr rfl)) (pgs_cons (pg_name (i := 7) sc_law.nd rfl (by first | exact .inl rfl | exact .inr rfl)) pgs_nil)))) (fun _ _ _ _ _ => pts_one (PW.pt (pw_and (pt_cmpR op_notN (pv 7) pe_non (nomark _)) (pw_and1 (pt_val (peD D_l_is_full g hr (by first | decide | exact Nat.le_refl _ | omega) (by rfl) (pa_cons (pv 3) (pa_cons (pv 7) pa_nil)))))))) (fun _ _ _ _ _ => (pv 16)))
      (pss_cons (ps_set (i := 13) sc_law.nd rfl (by first | exact .inl rfl | exact .inr rfl) (pe_callTy call_tuple_of (by rfl) B.b_tuple (by decide +kernel) (pa_cons (pe_lc (own := [("at", 16)]) (g := gName 16) (tt := _) rfl sc_law.nd (pi_list (pv 12)) (blkOk_by (N := N_law) (sc := defScope s_law) (by decide +kernel)) (fun _ _ _ _ _ => (pg_name (i := 16) sc_law.nd rfl (by first | exact .inl rfl | exact .inr rfl))) (fun _ _ _ _ _ => pts_one (pt_cmpR (eqK (K := K) rfl hr.units) (pe_ix (ixtK (K := K) rfl) (pe_ix (ixtK (K := K) rfl) (pe_ix (ixtK (K := K) rfl) (pv 5) (pv 16) (fun _ _ => rfl)) pe_int (fun _ _ => rfl)) pe_int (fun _ _ => rfl)) (pe_tup pa_nil) (nomark _))) (fun _ _ _ _ _ => (pv 16))) pa_nil)))
      (pss_cons (ps_set (i := 14) sc_law.nd rfl (by first | exact .inl rfl | exact .inr rfl) (pe_lst (pa_cons (peD D_heard_reel g hr (by first | decide | exact Nat.le_refl _ | omega) (by rfl) (pa_cons (pv 4) (pa_cons (pv 5) pa_nil))) (pa_cons (peD D_heard_reel_back g hr (by first | decide | exact Nat.le_refl _ | omega) (by rfl) (pa_cons (pv 4) (pa_cons (pv 5) pa_nil))) (pa_cons (peD D_whole_slots g hr (by first | decide | exact Nat.le_refl _ | omega) (by rfl) (pa_cons (pv 3) (pa_cons (pv 4) (pa_cons (pv 5) pa_nil)))) pa_nil)))))
      (pss_cons (ps_if (pt_not (pt_val (peD D_l_alike g hr (by first | decide | exact Nat.le_refl _ | omega) (by rfl) (pa_cons (pv 14) (pa_cons (pe_lst (pa_cons (pv 11) (pa_cons (pe_callTy call_tuple_of (by rfl) B.b_tuple (by decide +kernel) (pa_cons (pe_lc (own := [("hearing", 15)]) (g := gName 15) (tt := tYes) rfl sc_law.nd (pi_tup (pe_revT (pv 11))) (blkOk_by (N := N_law) (sc := defScope s_law) (by decide +kernel)) (fun _ _ _ _ _ => (pg_name (i := 15) sc_law.nd rfl (by first | exact .inl rfl | exact .inr rfl))) (fun _ _ _ _ _ => pts_nil) (fun _ _ _ _ _ => (peD D_l_back g hr (by first | decide | exact Nat.le_refl _ | omega) (by rfl) (pa_cons (pv 15) pa_nil)))) pa_nil)) (pa_cons (pv 13) pa_nil)))) pa_nil))))) (pss_one (ps_ret pe_bl)) pss_nil)
      (pss_cons (ps_for PassesOwn.never rfl (pi_zip3 (by rfl) B.b_zip (pa_cons (pv 4) (pa_cons (pv 5) (pa_cons (pv 11) pa_nil)))) (pg_tup rfl (pgs_cons (pg_name (i := 7) sc_law.nd rfl (by first | exact .inl rfl | exact .inr rfl)) (pgs_cons (pg_name (i := 8) sc_law.nd rfl (by first | exact .inl rfl | exact .inr rfl)) (pgs_cons (pg_name (i := 15) sc_law.nd rfl (by first | exact .inl rfl | exact .inr rfl)) pgs_nil)))) (pss_one (ps_if (PW.pt (pw_and (pt_cmpR op_notN (pv 7) pe_non (nomark _)) (pw_and1 (pt_not (pt_val (peD D_l_alike g hr (by first | decide | exact Nat.le_refl _ | omega) (by rfl) (pa_cons (peD D_heard_slot g hr (by first | decide | exact Nat.le_refl _ | omega) (by rfl) (pa_cons (pv 7) (pa_cons (pv 8) pa_nil))) (pa_cons (pv 15) pa_nil)))))))) (pss_one (ps_ret pe_bl)) pss_nil)))
      (pss_one (ps_if (pt_cmpR op_ne (pe_callB (call_show g (room66 hr)) (by rfl) B.b_repr (by decide +kernel) (pa_cons (pe_lst (pa_cons (pv 4) (pa_cons (pe_callTy call_list_of (by rfl) B.b_list (by decide +kernel) (pa_cons (pv 5) pa_nil)) pa_nil))) pa_nil)) (pv 10) (nomark _)) (pss_one (ps_ret pe_bl)) pss_nil)))))))))))))))
      (pss_one (ps_ret pe_bl)))), ?_⟩
  try dsimp only [cxOf]
  intro b C0
  repeat' walk_at "yy"
  refine sj_for ?_
  repeat' walk_at "yy"
  refine ⟨by decide, ?_⟩
  refine ⟨fun k es M => ∃ C e2 e3 e4 e5 e6 e7 e8 e9 e10 e11 e12 e13 e14 e15 e16, es = [.no, .ref b, e2, e3, e4, e5, e6, e7, e8, e9, e10, e11, e12, e13, e14, e15, e16] ∧ M = [(b, .lst (Bag.ds C))], ⟨_, _, _, _, _, _, _, _, _, _, _, _, _, _, _, _, rfl, rfl⟩, ?_, ?_⟩
  · rintro k0 d es M hd ⟨C, e2, e3, e4, e5, e6, e7, e8, e9, e10, e11, e12, e13, e14, e15, e16, rfl, rfl⟩
    obtain ⟨hkn, rfl⟩ := rgD_at hd
    repeat' walk_at "yy"
    refine c_D (.cons .nil) _ ⟨rfl, rfl⟩ fun zz C1 ⟨c, D, S, lo, most, le, ez, pD, pS, hB, hc, e8', c1, lo3, m6, le3⟩ => ?_
    subst ez
    have hk : BK c D S lo most le := ⟨pD, pS, hB, hc, c1, lo3, m6, le3⟩
    have z := szLD hk
    obtain ⟨L0, L1⟩ := LD_bd hk
    have hL : Bd 730 (LD D S) := Bd.up (j := 20) (by show (LD D S).natAbs < 2 ^ 20; omega) (by decide)
    have l1 := hB.l1
    have l2 := hB.l2
    repeat' walk_at "yy"
    refine c_D (.cons (.cons .nil)) _ ⟨c, D, S, lo, most, le, rfl, hk, rfl⟩ fun zz C2 ⟨data, many, spare, ez, hf⟩ => ?_
    subst ez
    have d7 := hf.d7
    repeat' walk_at "yy"
    refine c_Q (.cons (.cons .nil)) _ ⟨LD D S, [], [], rfl, z, by decide, (fun p hp => nomatch hp), rfl⟩ fun r er => ?_
    subst er
    repeat' walk_at "yy"
    refine c_Q (.cons (.cons .nil)) _ ⟨LD D S, [], [], rfl, z, by decide, (fun p hp => nomatch hp), rfl⟩ fun r er => ?_
    subst er
    repeat' walk_at "yy"
    refine c_Q (.cons (.cons (.cons .nil))) _ ⟨c, D, S, lo, most, le, (data : Int), many, spare, LD D S, [], [], rfl, z, l1, l2, by omega, by omega, by decide, rfl, (fun p hp => nomatch hp), (fun q hq => nomatch hq), rfl⟩ fun r er => ?_
    subst er
    repeat' walk_at "yy"
    refine c_alike (d := .list [.tuple [], .tuple [], .tuple []]) rfl (wt_told (H := []) (js := []) z.p hL (fun hs h => nomatch h) (by decide) (by decide) (fun j h => nomatch h)) ?_
    repeat' (first | exact absurd ‹(!true) = true› (by decide) | walk_at "yy")
    refine c_D (.cons (.cons .nil)) _ ⟨c, D, S, lo, most, le, data, many, spare, rfl, hk, hf, rfl⟩ fun zz C3 ⟨reel, night, ez, rl4, rne, hno, hbg⟩ => ?_
    subst ez
    have hrow : ∀ q, some q ∈ reel → q.length ≤ 43 ∧ ∀ x ∈ q, (lo : Int) ≤ x ∧ x ≤ (most : Int) := fun q hq => ⟨(beg_bd hk d7 (hbg q hq)).1, beg_in l2 (hbg q hq)⟩
    repeat' walk_at "yy"
    intro p hp
    rw [show ([(b, MO.lst (Bag.ds C3))] ++ [(p, MO.lst [])] : MM) = [(b, MO.lst (Bag.ds C3)), (p, MO.lst [])] from rfl]
    repeat' walk_at "yy"
    refine sj_for ?_
    repeat' walk_at "yy"
    refine ⟨_, _, .inr rfl, ?_⟩
    rw [zipD_map]
    refine ⟨fun k es M => ∃ (C' : Bag) (some_ : List (Option Item)) (e7 e8 e9 : Ent), es = [.no, .ref b, .dat (.int (0 + (k0 : Int))), .dat (fkD c D S lo most le data many spare), .dat (.tuple (reel.map slotD)), .dat (.tuple (night.map (itemD (LD D S)))), .ref p, e7, e8, e9, e10, e11, e12, e13, e14, e15, e16] ∧ M = [(b, .lst (Bag.ds C')), (p, .lst (some_.map (itemD (LD D S))))] ∧ some_.length = k ∧ ∀ q ∈ (reel.take k).zip some_, NOk q.1 q.2, ⟨C3, [], _, _, _, rfl, rfl, rfl, fun q hq => by simp at hq⟩, ?_, ?_⟩
    · rintro k d es M hd ⟨C4, sm, e7, e8, e9, rfl, rfl, sl, sok⟩
      obtain ⟨⟨o, i⟩, hk2, rfl⟩ := map_at hd
      have hok : NOk o i := hno _ (List.mem_of_getElem? hk2)
      have ho : reel[k]? = some o := (List.getElem?_zip_eq_some.mp hk2).1
      have hkl := (List.getElem?_eq_some_iff.mp ho).1
      have fin : ∀ i' : Option Item, NOk o i' → ∀ q ∈ (reel.take (k + 1)).zip (sm ++ [i']), NOk q.1 q.2 := fun i' hi' q hq => by
        rw [take_snoc ho, List.zip_append (by rw [List.length_take]; omega)] at hq
        rcases List.mem_append.mp hq with hq | hq
        · exact sok q hq
        · rw [List.mem_singleton.mp hq]
          exact hi'
      match o, i, hok with
      | none, none, _ =>
        dsimp only [slotD, itemD]
        repeat' (first | refine o_notN2 ?_ | exact absurd ‹(!isNone .none) = true› (by decide) | walk_at "yy")
        refine ⟨ty_ref (List.Mem.tail _ (List.Mem.head _)), ?_⟩
        repeat' walk_at "yy"
        refine m_append (Ma := [_]) (Mb := []) rfl (by rw [List.length_map]; omega) ?_
        exact ⟨C4, sm ++ [none], _, _, _, rfl, by rw [List.map_append]; rfl, by rw [List.length_append, sl]; rfl, fin none trivial⟩
      | some r, some i, hok =>
        have hi : ItemOk r i := hok
        have hne : hears r i ≠ [] := fun e => by
          have := hears_len hi
          rw [e] at this
          simp at this
        have hrl := hi.rl
        dsimp only [slotD, itemD]
        repeat' (first | refine o_notN2 ?_ | exact absurd ‹(!isNone (rowD r)) = false› (fun e => Bool.noConfusion e) | walk_at "yy")
        · decide
        · show _ < _; decide
        intro v C5 v0 v1
        repeat' walk_at "yy"
        · refine c_Q (.cons (.cons (.cons .nil))) _ ⟨LD D S, i.m, i.ms, r, i.ss, rfl, z, hi.sm, hi.rw, by omega, hi.sl, fun x hx => (hi.bb x hx).up (by decide), rfl⟩ fun y ey => ?_
          subst ey
          repeat' walk_at "yy"
          refine c_D (.cons .nil) _ ⟨c, D, S, lo, most, le, hears r i, rfl, hk, hne, by have := hears_len hi; omega, hears_bd5 hi, rfl⟩ fun y C6 ⟨ws, hy, wl, wa, wb⟩ => ?_
          subst hy
          repeat' (first | refine sl_T ?_ | walk_at "yy")
          refine c_some (by simp) (by simp) fun d C7 hd => ?_
          obtain ⟨h', rfl, hh⟩ : ∃ h' : Harm, d = hD (LD D S) h' ∧ HarmOk h' := by
            simp only [List.mem_cons, List.not_mem_nil, or_false] at hd
            rcases hd with h | h | h
            · exact ⟨.mis [0], h, by simp, fun j hj => by rw [List.mem_singleton.mp hj]; decide⟩
            · exact ⟨.cli ws, h, wl, wa, fun x hx => (wb x hx).up (by decide)⟩
            · exact ⟨.cli [], h, by simp, List.Pairwise.nil, fun x hx => nomatch hx⟩
          have hi2 : ItemOk r ⟨i.m, i.ms, i.ss, h'⟩ := ⟨hi.sm, hi.rw, hi.rl, hi.ml, hi.sl, hi.bm, hi.bs, hi.bb, hh⟩
          repeat' walk_at "yy"
          · show 2 + 1 ≤ 1000000
            decide
          refine ⟨ty_ref (List.Mem.tail _ (List.Mem.head _)), ?_⟩
          repeat' walk_at "yy"
          refine m_append (Ma := [_]) (Mb := []) rfl (by rw [List.length_map]; omega) ?_
          exact ⟨C7, sm ++ [some ⟨i.m, i.ms, i.ss, h'⟩], _, _, _, rfl, by rw [List.map_append]; rfl, by rw [List.length_append, sl]; rfl, fin (some ⟨i.m, i.ms, i.ss, h'⟩) hi2⟩
        · refine ⟨ty_ref (List.Mem.tail _ (List.Mem.head _)), ?_⟩
          repeat' walk_at "yy"
          refine m_append (Ma := [_]) (Mb := []) rfl (by rw [List.length_map]; omega) ?_
          exact ⟨C5, sm ++ [some i], _, _, _, rfl, by rw [List.map_append]; rfl, by rw [List.length_append, sl]; rfl, fin (some i) hi⟩
    · rintro es M ⟨C4, sm, e7, e8, e9, rfl, rfl, sl, sok⟩
      rw [List.length_map, List.length_zip, ← rne, Nat.min_self] at sl
      have sne : reel.length = sm.length := sl.symm
      rw [List.length_map, List.length_zip, ← rne, Nat.min_self, List.take_length] at sok
      have rok : ∀ q, some q ∈ reel → q.length ≤ 60 ∧ ∀ x ∈ q, x.natAbs < 2 ^ 10 := fun q hq => ⟨by have := (hrow q hq).1; omega, fun x hx => by have := (hrow q hq).2 x hx; show x.natAbs < 1024; omega⟩
      have wsh := wt_shown z rl4 sne sok rok
      refine sj_fast [(b, .lst (Bag.ds C4))] [] rfl hp (.keep (.keep (.keep (.keep (.keep (.keep (.hit (.keep (.keep (.keep (.keep (.keep (.keep (.keep (.keep (.keep (.keep .nil))))))))))))))))) ?_
      repeat' (first | refine c_tuple (.lst _) ?_ | refine c_show (wsh.shaped (by decide)) wsh.sho (size_ok wsh.len (by decide)) ?_ | walk_at "yy")
      refine ev_lc (own_pair (by decide) (by decide)) ?_
      repeat' walk_at "yy"
      refine ⟨_, _, .inr rfl, ?_⟩
      rw [zipD_map]
      have zl : (reel.zip sm).length = reel.length := by rw [List.length_zip]; omega
      refine ⟨fun k acc M => acc = ((reel.zip sm).take k).map (fun p => hsD (LD D S) (heardL p.1 p.2)) ∧ M = [(b, .lst (Bag.ds C4))], ⟨rfl, rfl⟩, fun k d acc M hd e => ?_, fun acc M e => ?_⟩
      · obtain ⟨rfl, rfl⟩ := e
        obtain ⟨q, hq, rfl⟩ := map_at hd
        refine ⟨by rw [List.length_map, List.length_take]; omega, ?_⟩
        repeat' (first | exact absurd ‹true = false› (by decide) | walk_at "yy")
        refine c_Q (.cons (.cons .nil)) _ ⟨LD D S, q.1, q.2, rfl, z, sok _ (List.mem_of_getElem? hq), rfl⟩ fun y ey => ?_
        subst ey
        exact ⟨_, rfl, (map_snoc hq).symm, rfl⟩
      obtain ⟨rfl, rfl⟩ := e
      rw [List.length_map, List.take_length, show (reel.zip sm).map (fun p => hsD (LD D S) (heardL p.1 p.2)) = (heards reel sm).map (hsD (LD D S)) by unfold heards; rw [List.map_map]; rfl]
      have hH : ∀ hs ∈ heards reel sm, hs.length ≤ 47 ∧ ∀ x ∈ hs, Bd 730 x := fun hs h => by
        unfold heards at h
        obtain ⟨q, hq, rfl⟩ := List.mem_map.mp h
        have hq2 := List.of_mem_zip (a := q.1) (b := q.2) hq
        exact ⟨heard_short (sok q hq) fun r er => (hrow r (er ▸ hq2.1)).1, heard_bd (sok q hq)⟩
      have hHl : (heards reel sm).length ≤ 4 := by
        unfold heards
        rw [List.length_map, zl]
        exact rl4
      repeat' (first | refine c_tuple (.lst _) ?_ | walk_at "yy")
      refine ev_lc (own_pair (by decide) (by decide)) ?_
      repeat' walk_at "yy"
      refine ⟨fun k acc M => acc = (fullT ((data : Int) + 2 * ((le : Int) * (most : Int))) reel k).map PyData.int ∧ M = [(b, .lst (Bag.ds C4))], ⟨rfl, rfl⟩, fun k d acc M hd e => ?_, fun acc M e => ?_⟩
      · obtain ⟨rfl, rfl⟩ := e
        obtain ⟨x, hx, rfl⟩ := enumD_at hd
        obtain ⟨o, ho, rfl⟩ := map_at hx
        have hkl := (List.getElem?_eq_some_iff.mp ho).1
        have sn := fullT_snoc (tot := (data : Int) + 2 * ((le : Int) * (most : Int))) ho
        have fl := fullT_len ((data : Int) + 2 * ((le : Int) * (most : Int))) reel k
        refine ⟨by rw [List.length_map]; omega, ?_⟩
        cases o with
        | none =>
          dsimp only [slotD]
          repeat' (first | refine o_notN2 ?_ | exact absurd ‹(!isNone .none) = true› (by decide) | walk_at "yy")
          refine ⟨?_, rfl⟩
          rw [sn]
          show _ = List.map PyData.int (_ ++ [])
          rw [List.append_nil]
        | some r =>
          have hb := hbg r (List.mem_of_getElem? ho)
          dsimp only [slotD]
          repeat' (first | refine o_notN2 ?_ | exact absurd ‹(!isNone (rowD r)) = false› (fun e => Bool.noConfusion e) | walk_at "yy")
          refine c_Q (.cons (.cons .nil)) _ ⟨c, D, S, lo, most, le, (data : Int), many, spare, r, rfl, l1, l2, by omega, by omega, by have := (hrow r (List.mem_of_getElem? ho)).1; omega, hb, rfl⟩ fun y ey => ?_
          subst ey
          by_cases hf2 : r.sum = (data : Int) + 2 * ((le : Int) * (most : Int))
          · rw [decide_eq_true hf2]
            repeat' (first | exact absurd ‹true = false› (by decide) | walk_at "yy")
            refine ⟨?_, rfl⟩
            rw [sn, show fullO ((data : Int) + 2 * ((le : Int) * (most : Int))) (some r) = true from decide_eq_true hf2, if_pos rfl, List.map_append, Nat.zero_add]
            rfl
          · rw [decide_eq_false hf2]
            repeat' (first | exact absurd ‹false = true› (by decide) | walk_at "yy")
            refine ⟨?_, rfl⟩
            rw [sn, show fullO ((data : Int) + 2 * ((le : Int) * (most : Int))) (some r) = false from decide_eq_false hf2]
            show _ = List.map PyData.int (_ ++ [])
            rw [List.append_nil]
      obtain ⟨rfl, rfl⟩ := e
      rw [enumD_len, List.length_map]
      repeat' walk_at "yy"
      refine ev_lc (own_name (by decide)) ?_
      repeat' walk_at "yy"
      have ffl := fullT_len ((data : Int) + 2 * ((le : Int) * (most : Int))) reel reel.length
      have fm : ∀ a ∈ fullT ((data : Int) + 2 * ((le : Int) * (most : Int))) reel reel.length, _ := fun a ha => fullT_mem ha
      have weq := whole_eq (tot := (data : Int) + 2 * ((le : Int) * (most : Int))) sne reel.length (Nat.le_refl _)
      generalize fullT ((data : Int) + 2 * ((le : Int) * (most : Int))) reel reel.length = ft at *
      refine ⟨fun k acc M => acc = ((ft.take k).filter (cleanA sm)).map PyData.int ∧ M = [(b, .lst (Bag.ds C4))], ⟨rfl, rfl⟩, fun k d acc M hd e => ?_, fun acc M e => ?_⟩
      · obtain ⟨rfl, rfl⟩ := e
        obtain ⟨a, ha, rfl⟩ := ints_at hd
        obtain ⟨i0, r, rfl, hir⟩ := fm a (List.mem_of_getElem? ha)
        have hkl := (List.getElem?_eq_some_iff.mp ha).1
        have hil := (List.getElem?_eq_some_iff.mp hir).1
        have his := List.getElem?_eq_getElem (show i0 < sm.length by omega)
        generalize sm[i0] = io at his
        have hzz : (reel.zip sm)[i0]? = some (some r, io) := by rw [List.getElem?_zip_eq_some]; exact ⟨hir, his⟩
        have hio := sok _ (List.mem_of_getElem? hzz)
        have sn := filter_snoc (f := cleanA sm) ha
        refine ⟨by rw [List.length_map]; exact Nat.lt_of_le_of_lt (List.length_filter_le _ _) (by rw [List.length_take]; omega), ?_⟩
        match io, his, hio with
        | none, _, hio => exact hio.elim
        | some i, his, hio =>
          have hi : ItemOk r i := hio
          have hkk := hi.hk
          have hcl : cleanA sm (i0 : Int) = harm0 (some i) := by
            show (match sm[i0]? with | some i => harm0 i | none => false) = _
            rw [his]
          cases hc2 : i.h with
          | mis js =>
            rw [hc2] at hkk
            have aN : atI (sm.map (itemD (LD D S))) ((i0 : Nat) : Int) = some (.tuple [telD (LD D S) i.m i.ms, .tuple (qs (LD D S) i.ss), .tuple [.str (Str.ofString "missed"), .tuple (js.map .int)]]) := by
              refine atI_nat ?_
              rw [List.getElem?_map, his, show Option.map (itemD (LD D S)) (some (some i)) = some (.tuple [telD (LD D S) i.m i.ms, .tuple (qs (LD D S) i.ss), hD (LD D S) i.h]) from rfl, hc2]
              rfl
            have h0 : harm0 (some i) = js.isEmpty := by
              show (match i.h with | .mis js => js.isEmpty | .cli ws => ws.isEmpty) = _
              rw [hc2]
            have wj := wt_intsS (n := 300) (fun j hj => by have := hkk.2 j hj; show j.natAbs < 1024; omega) hkk.1
            repeat' (first | refine o_ixT aN ?_ | walk_at "yy")
            refine o_eqD (wj.shaped (by decide)) shaped_nilT ?_
            rw [eqv_nilT]
            cases js with
            | nil =>
              repeat' (first | exact absurd ‹decide (List.map PyData.int [] = []) = false› (by simp) | walk_at "yy")
              refine ⟨?_, rfl⟩
              rw [sn, hcl, h0]
              show _ = List.map PyData.int (_ ++ [(i0 : Int)])
              rw [List.map_append]
              rfl
            | cons j js =>
              repeat' (first | exact absurd ‹decide (List.map PyData.int (j :: js) = []) = true› (by simp) | walk_at "yy")
              refine ⟨?_, rfl⟩
              rw [sn, hcl, h0]
              show _ = List.map PyData.int (_ ++ [])
              rw [List.append_nil]
          | cli ws =>
            rw [hc2] at hkk
            have aN : atI (sm.map (itemD (LD D S))) ((i0 : Nat) : Int) = some (.tuple [telD (LD D S) i.m i.ms, .tuple (qs (LD D S) i.ss), .tuple [.str (Str.ofString "clicks"), .tuple (qs (LD D S) ws)]]) := by
              refine atI_nat ?_
              rw [List.getElem?_map, his, show Option.map (itemD (LD D S)) (some (some i)) = some (.tuple [telD (LD D S) i.m i.ms, .tuple (qs (LD D S) i.ss), hD (LD D S) i.h]) from rfl, hc2]
              rfl
            have h0 : harm0 (some i) = ws.isEmpty := by
              show (match i.h with | .mis js => js.isEmpty | .cli ws => ws.isEmpty) = _
              rw [hc2]
            have wj := wt_qs z (fun m hm => (hkk.2.2 m hm).up (by decide)) hkk.1
            repeat' (first | refine o_ixT aN ?_ | walk_at "yy")
            refine o_eqD (wj.shaped (by decide)) shaped_nilT ?_
            rw [eqv_nilT]
            cases ws with
            | nil =>
              repeat' (first | exact absurd ‹decide (qs (LD D S) [] = []) = false› (by simp [qs]) | walk_at "yy")
              refine ⟨?_, rfl⟩
              rw [sn, hcl, h0]
              show _ = List.map PyData.int (_ ++ [(i0 : Int)])
              rw [List.map_append]
              rfl
            | cons j js =>
              repeat' (first | exact absurd ‹decide (qs (LD D S) (j :: js) = []) = true› (by simp [qs]) | walk_at "yy")
              refine ⟨?_, rfl⟩
              rw [sn, hcl, h0]
              show _ = List.map PyData.int (_ ++ [])
              rw [List.append_nil]
      obtain ⟨rfl, rfl⟩ := e
      rw [List.length_map, List.take_length, weq]
      have jw : ∀ j ∈ wholeT ((data : Int) + 2 * ((le : Int) * (most : Int))) (reel.zip sm) reel.length, j.natAbs < 2 ^ 10 := fun j hj => by
        obtain ⟨i, hi, rfl⟩ := wholeT_mem hj
        show ((i : Int)).natAbs < 1024
        omega
      have jl := wholeT_len ((data : Int) + 2 * ((le : Int) * (most : Int))) (reel.zip sm) reel.length
      repeat' (first | refine c_tuple (.lst _) ?_ | walk_at "yy")
      refine c_Q (.cons (.cons .nil)) _ ⟨LD D S, reel, sm, rfl, z, by omega, sok, rfl⟩ fun r er => ?_
      subst er
      repeat' walk_at "yy"
      refine c_Q (.cons (.cons .nil)) _ ⟨LD D S, reel, sm, rfl, z, by omega, sok, rfl⟩ fun r er => ?_
      subst er
      repeat' walk_at "yy"
      refine c_Q (.cons (.cons (.cons .nil))) _ ⟨c, D, S, lo, most, le, (data : Int), many, spare, LD D S, reel, sm, rfl, z, l1, l2, by omega, by omega, by omega, sne, sok, hbg, rfl⟩ fun r er => ?_
      subst er
      repeat' walk_at "yy"
      intro p2 hp2
      refine sj_fast [(b, .lst (Bag.ds C4))] [] rfl hp2 ((.keep (.keep (.keep (.keep (.keep (.keep (.keep (.keep (.keep (.keep (.keep (.keep (.keep (.keep (.hit (.keep (.keep .nil)))))))))))))))))) ?_
      repeat' walk_at "yy"
      refine ev_lc (own_name (by decide)) ?_
      repeat' walk_at "yy"
      rw [← List.map_reverse]
      refine ⟨fun k acc M => acc = ((heards reel sm).reverse.take k).map (fun hs => hsD (LD D S) (hs.reverse.map fun x => -x)) ∧ M = [(b, .lst (Bag.ds C4))], ⟨rfl, rfl⟩, fun k d acc M hd e => ?_, fun acc M e => ?_⟩
      · obtain ⟨rfl, rfl⟩ := e
        obtain ⟨hs, hk2, rfl⟩ := map_at hd
        have hm := (hH hs (List.mem_reverse.mp (List.mem_of_getElem? hk2))).1
        refine ⟨by rw [List.length_map, List.length_take, List.length_reverse]; omega, ?_⟩
        repeat' (first | exact absurd ‹true = false› (by decide) | walk_at "yy")
        refine c_Q (.cons .nil) _ ⟨LD D S, hs, rfl, z, by omega, rfl⟩ fun y ey => ?_
        subst ey
        exact ⟨_, rfl, (map_snoc hk2).symm, rfl⟩
      obtain ⟨rfl, rfl⟩ := e
      rw [List.length_map, List.take_length]
      repeat' (first | refine c_tuple (.lst _) ?_ | walk_at "yy")
      refine c_alike rfl (wt_told z.p hL hH hHl (Nat.le_trans jl rl4) jw) ?_
      repeat' (first | exact absurd ‹(!true) = true› (by decide) | walk_at "yy")
      refine sj_for ?_
      repeat' walk_at "yy"
      refine ⟨_, _, _, rfl, ?_⟩
      refine ⟨fun k es M => ∃ e2 e3 e6 e7 e8 e9 e11 e12 e13 e14 e15 e16, es = [.no, .ref b, e2, e3, .dat (.tuple (reel.map slotD)), .dat (.tuple (sm.map (itemD (LD D S)))), e6, e7, e8, e9, .dat (.str (PyData.list [PyData.tuple (reel.map slotD), PyData.list (sm.map (itemD (LD D S)))]).shown), e11, e12, e13, e14, e15, e16] ∧ M = [(b, .lst (Bag.ds C4))], ⟨_, _, _, _, _, _, _, _, _, _, _, _, rfl, rfl⟩, ?_, ?_⟩
      · rintro k d es M hd ⟨e2, e3, e6, e7, e8, e9, e11, e12, e13, e14, e15, e16, rfl, rfl⟩
        obtain ⟨x1, x2, x3, h1, h2, h3, rfl⟩ := zip3D_at hd
        obtain ⟨o, ho, rfl⟩ := map_at h1
        obtain ⟨i, hi, rfl⟩ := map_at h2
        obtain ⟨hs, hh, rfl⟩ := map_at h3
        have hz : (reel.zip sm)[k]? = some (o, i) := by rw [List.getElem?_zip_eq_some]; exact ⟨ho, hi⟩
        have hhs : hs = heardL o i := by
          unfold heards at hh
          rw [List.getElem?_map, hz] at hh
          exact (Option.some.inj hh).symm
        subst hhs
        have hok := sok _ (List.mem_of_getElem? hz)
        have hHk := hH _ (List.mem_of_getElem? hh)
        match o, i, hok, hHk with
        | none, none, _, _ =>
          dsimp only [slotD, itemD]
          repeat' (first | refine o_notN2 ?_ | exact absurd ‹(!isNone .none) = true› (by decide) | walk_at "yy")
          all_goals exact ⟨_, _, _, _, _, _, _, _, _, _, _, _, rfl, rfl⟩
        | some r, some i, hok, hHk =>
          have hok : ItemOk r i := hok
          dsimp only [slotD, itemD]
          repeat' (first | refine o_notN2 ?_ | exact absurd ‹(!isNone (rowD r)) = false› (fun e => Bool.noConfusion e) | walk_at "yy")
          refine c_Q (.cons (.cons .nil)) _ ⟨LD D S, r, i, rfl, z, hok, rfl⟩ fun y ey => ?_
          subst ey
          repeat' walk_at "yy"
          refine c_alike rfl ((wt_hs z.p hL hHk.2 hHk.1).up (by decide) (by decide)) ?_
          repeat' (first | exact absurd ‹(!true) = true› (by decide) | walk_at "yy")
          all_goals exact ⟨_, _, _, _, _, _, _, _, _, _, _, _, rfl, rfl⟩
      · rintro es M ⟨e2, e3, e6, e7, e8, e9, e11, e12, e13, e14, e15, e16, rfl, rfl⟩
        repeat' (first | refine c_list (.tup _) ?_ | refine c_show (wsh.shaped (by decide)) wsh.sho (size_ok wsh.len (by decide)) ?_ | walk_at "yy")
        · have hne := ‹(!decide (_ = _)) = true›
          simp at hne
        · exact ⟨C4, _, _, _, _, _, _, _, _, _, _, _, _, _, _, _, rfl, rfl⟩
  · rintro es M ⟨C, e2, e3, e4, e5, e6, e7, e8, e9, e10, e11, e12, e13, e14, e15, e16, rfl, rfl⟩
    repeat' walk_at "yy"
    exact rfl
end
end K34

set_option Elab.async false
set_option linter.all false
set_option maxRecDepth 100000
set_option maxHeartbeats 4000000
namespace K34
open PySem PySem.Spec PyProof.Rows L2 Yw
/-! ### what the top has written -/
theorem all_mk {l : PySem.W.OpenLaw} {w : World} {K : PySem.W.Frag} {h : Heap} {mg : Str → Option Value} {fa : Addr} (X : K.In h) (G : h.Ns mainGlobals mg) (hfa : mg "law" = some (.ref fa))
    {f0 : Addr} {od0 an0 : Option Addr} {sl0 : Array (Option Value)} {oc0 kV0 dc0 pm0 cd0 ct0 : Value}
    {f1 : Addr} {od1 an1 : Option Addr} {sl1 : Array (Option Value)} {oc1 kV1 dc1 pm1 cd1 ct1 : Value}
    {f2 : Addr} {od2 an2 : Option Addr} {sl2 : Array (Option Value)} {oc2 kV2 dc2 pm2 cd2 ct2 : Value}
    {f3 : Addr} {od3 an3 : Option Addr} {sl3 : Array (Option Value)} {oc3 kV3 dc3 pm3 cd3 ct3 : Value}
    {f4 : Addr} {od4 an4 : Option Addr} {sl4 : Array (Option Value)} {oc4 kV4 dc4 pm4 cd4 ct4 : Value}
    {f5 : Addr} {od5 an5 : Option Addr} {sl5 : Array (Option Value)} {oc5 kV5 dc5 pm5 cd5 ct5 : Value}
    {f6 : Addr} {od6 an6 : Option Addr} {sl6 : Array (Option Value)} {oc6 kV6 dc6 pm6 cd6 ct6 : Value}
    {f7 : Addr} {od7 an7 : Option Addr} {sl7 : Array (Option Value)} {oc7 kV7 dc7 pm7 cd7 ct7 : Value}
    {f8 : Addr} {od8 an8 : Option Addr} {sl8 : Array (Option Value)} {oc8 kV8 dc8 pm8 cd8 ct8 : Value}
    {f9 : Addr} {od9 an9 : Option Addr} {sl9 : Array (Option Value)} {oc9 kV9 dc9 pm9 cd9 ct9 : Value}
    {f10 : Addr} {od10 an10 : Option Addr} {sl10 : Array (Option Value)} {oc10 kV10 dc10 pm10 cd10 ct10 : Value}
    {f11 : Addr} {od11 an11 : Option Addr} {sl11 : Array (Option Value)} {oc11 kV11 dc11 pm11 cd11 ct11 : Value}
    {f12 : Addr} {od12 an12 : Option Addr} {sl12 : Array (Option Value)} {oc12 kV12 dc12 pm12 cd12 ct12 : Value}
    {f13 : Addr} {od13 an13 : Option Addr} {sl13 : Array (Option Value)} {oc13 kV13 dc13 pm13 cd13 ct13 : Value}
    {f14 : Addr} {od14 an14 : Option Addr} {sl14 : Array (Option Value)} {oc14 kV14 dc14 pm14 cd14 ct14 : Value}
    {f15 : Addr} {od15 an15 : Option Addr} {sl15 : Array (Option Value)} {oc15 kV15 dc15 pm15 cd15 ct15 : Value}
    {f16 : Addr} {od16 an16 : Option Addr} {sl16 : Array (Option Value)} {oc16 kV16 dc16 pm16 cd16 ct16 : Value}
    {f17 : Addr} {od17 an17 : Option Addr} {sl17 : Array (Option Value)} {oc17 kV17 dc17 pm17 cd17 ct17 : Value}
    {f18 : Addr} {od18 an18 : Option Addr} {sl18 : Array (Option Value)} {oc18 kV18 dc18 pm18 cd18 ct18 : Value}
    {f19 : Addr} {od19 an19 : Option Addr} {sl19 : Array (Option Value)} {oc19 kV19 dc19 pm19 cd19 ct19 : Value}
    {f20 : Addr} {od20 an20 : Option Addr} {sl20 : Array (Option Value)} {oc20 kV20 dc20 pm20 cd20 ct20 : Value}
    {f21 : Addr} {od21 an21 : Option Addr} {sl21 : Array (Option Value)} {oc21 kV21 dc21 pm21 cd21 ct21 : Value}
    {f22 : Addr} {od22 an22 : Option Addr} {sl22 : Array (Option Value)} {oc22 kV22 dc22 pm22 cd22 ct22 : Value}
    {f23 : Addr} {od23 an23 : Option Addr} {sl23 : Array (Option Value)} {oc23 kV23 dc23 pm23 cd23 ct23 : Value}
    {f24 : Addr} {od24 an24 : Option Addr} {sl24 : Array (Option Value)} {oc24 kV24 dc24 pm24 cd24 ct24 : Value}
    {f25 : Addr} {od25 an25 : Option Addr} {sl25 : Array (Option Value)} {oc25 kV25 dc25 pm25 cd25 ct25 : Value}
    {f26 : Addr} {od26 an26 : Option Addr} {sl26 : Array (Option Value)} {oc26 kV26 dc26 pm26 cd26 ct26 : Value}
    {f27 : Addr} {od27 an27 : Option Addr} {sl27 : Array (Option Value)} {oc27 kV27 dc27 pm27 cd27 ct27 : Value}
    {f28 : Addr} {od28 an28 : Option Addr} {sl28 : Array (Option Value)} {oc28 kV28 dc28 pm28 cd28 ct28 : Value}
    {f29 : Addr} {od29 an29 : Option Addr} {sl29 : Array (Option Value)} {oc29 kV29 dc29 pm29 cd29 ct29 : Value}
    {f30 : Addr} {od30 an30 : Option Addr} {sl30 : Array (Option Value)} {oc30 kV30 dc30 pm30 cd30 ct30 : Value}
    {f31 : Addr} {od31 an31 : Option Addr} {sl31 : Array (Option Value)} {oc31 kV31 dc31 pm31 cd31 ct31 : Value}
    {f32 : Addr} {od32 an32 : Option Addr} {sl32 : Array (Option Value)} {oc32 kV32 dc32 pm32 cd32 ct32 : Value}
    {f33 : Addr} {od33 an33 : Option Addr} {sl33 : Array (Option Value)} {oc33 kV33 dc33 pm33 cd33 ct33 : Value}
    {f34 : Addr} {od34 an34 : Option Addr} {sl34 : Array (Option Value)} {oc34 kV34 dc34 pm34 cd34 ct34 : Value}
    {f35 : Addr} {od35 an35 : Option Addr} {sl35 : Array (Option Value)} {oc35 kV35 dc35 pm35 cd35 ct35 : Value}
    {f36 : Addr} {od36 an36 : Option Addr} {sl36 : Array (Option Value)} {oc36 kV36 dc36 pm36 cd36 ct36 : Value}
    {f37 : Addr} {od37 an37 : Option Addr} {sl37 : Array (Option Value)} {oc37 kV37 dc37 pm37 cd37 ct37 : Value}
    {f38 : Addr} {od38 an38 : Option Addr} {sl38 : Array (Option Value)} {oc38 kV38 dc38 pm38 cd38 ct38 : Value}
    {f39 : Addr} {od39 an39 : Option Addr} {sl39 : Array (Option Value)} {oc39 kV39 dc39 pm39 cd39 ct39 : Value}
    {f40 : Addr} {od40 an40 : Option Addr} {sl40 : Array (Option Value)} {oc40 kV40 dc40 pm40 cd40 ct40 : Value}
    {f41 : Addr} {od41 an41 : Option Addr} {sl41 : Array (Option Value)} {oc41 kV41 dc41 pm41 cd41 ct41 : Value}
    {f42 : Addr} {od42 an42 : Option Addr} {sl42 : Array (Option Value)} {oc42 kV42 dc42 pm42 cd42 ct42 : Value}
    {f43 : Addr} {od43 an43 : Option Addr} {sl43 : Array (Option Value)} {oc43 kV43 dc43 pm43 cd43 ct43 : Value}
    {f44 : Addr} {od44 an44 : Option Addr} {sl44 : Array (Option Value)} {oc44 kV44 dc44 pm44 cd44 ct44 : Value}
    {f45 : Addr} {od45 an45 : Option Addr} {sl45 : Array (Option Value)} {oc45 kV45 dc45 pm45 cd45 ct45 : Value}
    {f46 : Addr} {od46 an46 : Option Addr} {sl46 : Array (Option Value)} {oc46 kV46 dc46 pm46 cd46 ct46 : Value}
    {f47 : Addr} {od47 an47 : Option Addr} {sl47 : Array (Option Value)} {oc47 kV47 dc47 pm47 cd47 ct47 : Value}
    {f48 : Addr} {od48 an48 : Option Addr} {sl48 : Array (Option Value)} {oc48 kV48 dc48 pm48 cd48 ct48 : Value}
    {f49 : Addr} {od49 an49 : Option Addr} {sl49 : Array (Option Value)} {oc49 kV49 dc49 pm49 cd49 ct49 : Value}
    {f50 : Addr} {od50 an50 : Option Addr} {sl50 : Array (Option Value)} {oc50 kV50 dc50 pm50 cd50 ct50 : Value}
    {f51 : Addr} {od51 an51 : Option Addr} {sl51 : Array (Option Value)} {oc51 kV51 dc51 pm51 cd51 ct51 : Value}
    {f52 : Addr} {od52 an52 : Option Addr} {sl52 : Array (Option Value)} {oc52 kV52 dc52 pm52 cd52 ct52 : Value}
    {f53 : Addr} {od53 an53 : Option Addr} {sl53 : Array (Option Value)} {oc53 kV53 dc53 pm53 cd53 ct53 : Value}
    {f54 : Addr} {od54 an54 : Option Addr} {sl54 : Array (Option Value)} {oc54 kV54 dc54 pm54 cd54 ct54 : Value}
    {f55 : Addr} {od55 an55 : Option Addr} {sl55 : Array (Option Value)} {oc55 kV55 dc55 pm55 cd55 ct55 : Value}
    {f56 : Addr} {od56 an56 : Option Addr} {sl56 : Array (Option Value)} {oc56 kV56 dc56 pm56 cd56 ct56 : Value}
    {f57 : Addr} {od57 an57 : Option Addr} {sl57 : Array (Option Value)} {oc57 kV57 dc57 pm57 cd57 ct57 : Value}
    {f58 : Addr} {od58 an58 : Option Addr} {sl58 : Array (Option Value)} {oc58 kV58 dc58 pm58 cd58 ct58 : Value}
    {f59 : Addr} {od59 an59 : Option Addr} {sl59 : Array (Option Value)} {oc59 kV59 dc59 pm59 cd59 ct59 : Value}
    {f60 : Addr} {od60 an60 : Option Addr} {sl60 : Array (Option Value)} {oc60 kV60 dc60 pm60 cd60 ct60 : Value}
    {f61 : Addr} {od61 an61 : Option Addr} {sl61 : Array (Option Value)} {oc61 kV61 dc61 pm61 cd61 ct61 : Value}
    {f62 : Addr} {od62 an62 : Option Addr} {sl62 : Array (Option Value)} {oc62 kV62 dc62 pm62 cd62 ct62 : Value}
    {f63 : Addr} {od63 an63 : Option Addr} {sl63 : Array (Option Value)} {oc63 kV63 dc63 pm63 cd63 ct63 : Value}
    {f64 : Addr} {od64 an64 : Option Addr} {sl64 : Array (Option Value)} {oc64 kV64 dc64 pm64 cd64 ct64 : Value}
    (a0 : PySem.W.nsIn K mainGlobals "cells_of" = some (some (.ref f0))) (l0 : K.lookup f0 = some ⟨oc0, od0, .func (PySem.W.fnOf "cells_of" "cells_of" (defArgs s_cells_of) (defBody s_cells_of) (defScope s_cells_of) .none kV0 dc0 pm0 an0 cd0 ct0), sl0⟩) (c0 : PySem.W.codeIn K cd0 "cells_of" = true) (k0 : PySem.W.keepIn K (.ref f0) = true)
    (a1 : PySem.W.nsIn K mainGlobals "negated" = some (some (.ref f1))) (l1 : K.lookup f1 = some ⟨oc1, od1, .func (PySem.W.fnOf "negated" "negated" (defArgs s_negated) (defBody s_negated) (defScope s_negated) .none kV1 dc1 pm1 an1 cd1 ct1), sl1⟩) (c1 : PySem.W.codeIn K cd1 "negated" = true) (k1 : PySem.W.keepIn K (.ref f1) = true)
    (a2 : PySem.W.nsIn K mainGlobals "added" = some (some (.ref f2))) (l2 : K.lookup f2 = some ⟨oc2, od2, .func (PySem.W.fnOf "added" "added" (defArgs s_added) (defBody s_added) (defScope s_added) .none kV2 dc2 pm2 an2 cd2 ct2), sl2⟩) (c2 : PySem.W.codeIn K cd2 "added" = true) (k2 : PySem.W.keepIn K (.ref f2) = true)
    (a3 : PySem.W.nsIn K mainGlobals "compared" = some (some (.ref f3))) (l3 : K.lookup f3 = some ⟨oc3, od3, .func (PySem.W.fnOf "compared" "compared" (defArgs s_compared) (defBody s_compared) (defScope s_compared) .none kV3 dc3 pm3 an3 cd3 ct3), sl3⟩) (c3 : PySem.W.codeIn K cd3 "compared" = true) (k3 : PySem.W.keepIn K (.ref f3) = true)
    (a4 : PySem.W.nsIn K mainGlobals "merged" = some (some (.ref f4))) (l4 : K.lookup f4 = some ⟨oc4, od4, .func (PySem.W.fnOf "merged" "merged" (defArgs s_merged) (defBody s_merged) (defScope s_merged) .none kV4 dc4 pm4 an4 cd4 ct4), sl4⟩) (c4 : PySem.W.codeIn K cd4 "merged" = true) (k4 : PySem.W.keepIn K (.ref f4) = true)
    (a5 : PySem.W.nsIn K mainGlobals "merged_by" = some (some (.ref f5))) (l5 : K.lookup f5 = some ⟨oc5, od5, .func (PySem.W.fnOf "merged_by" "merged_by" (defArgs s_merged_by) (defBody s_merged_by) (defScope s_merged_by) .none kV5 dc5 pm5 an5 cd5 ct5), sl5⟩) (c5 : PySem.W.codeIn K cd5 "merged_by" = true) (k5 : PySem.W.keepIn K (.ref f5) = true)
    (a6 : PySem.W.nsIn K mainGlobals "in_order" = some (some (.ref f6))) (l6 : K.lookup f6 = some ⟨oc6, od6, .func (PySem.W.fnOf "in_order" "in_order" (defArgs s_in_order) (defBody s_in_order) (defScope s_in_order) .none kV6 dc6 pm6 an6 cd6 ct6), sl6⟩) (c6 : PySem.W.codeIn K cd6 "in_order" = true) (k6 : PySem.W.keepIn K (.ref f6) = true)
    (a7 : PySem.W.nsIn K mainGlobals "in_order_by" = some (some (.ref f7))) (l7 : K.lookup f7 = some ⟨oc7, od7, .func (PySem.W.fnOf "in_order_by" "in_order_by" (defArgs s_in_order_by) (defBody s_in_order_by) (defScope s_in_order_by) .none kV7 dc7 pm7 an7 cd7 ct7), sl7⟩) (c7 : PySem.W.codeIn K cd7 "in_order_by" = true) (k7 : PySem.W.keepIn K (.ref f7) = true)
    (a8 : PySem.W.nsIn K mainGlobals "is_integer" = some (some (.ref f8))) (l8 : K.lookup f8 = some ⟨oc8, od8, .func (PySem.W.fnOf "is_integer" "is_integer" (defArgs s_is_integer) (defBody s_is_integer) (defScope s_is_integer) .none kV8 dc8 pm8 an8 cd8 ct8), sl8⟩) (c8 : PySem.W.codeIn K cd8 "is_integer" = true) (k8 : PySem.W.keepIn K (.ref f8) = true)
    (a9 : PySem.W.nsIn K mainGlobals "is_run" = some (some (.ref f9))) (l9 : K.lookup f9 = some ⟨oc9, od9, .func (PySem.W.fnOf "is_run" "is_run" (defArgs s_is_run) (defBody s_is_run) (defScope s_is_run) .none kV9 dc9 pm9 an9 cd9 ct9), sl9⟩) (c9 : PySem.W.codeIn K cd9 "is_run" = true) (k9 : PySem.W.keepIn K (.ref f9) = true)
    (a10 : PySem.W.nsIn K mainGlobals "is_row" = some (some (.ref f10))) (l10 : K.lookup f10 = some ⟨oc10, od10, .func (PySem.W.fnOf "is_row" "is_row" (defArgs s_is_row) (defBody s_is_row) (defScope s_is_row) .none kV10 dc10 pm10 an10 cd10 ct10), sl10⟩) (c10 : PySem.W.codeIn K cd10 "is_row" = true) (k10 : PySem.W.keepIn K (.ref f10) = true)
    (a11 : PySem.W.nsIn K mainGlobals "are_all" = some (some (.ref f11))) (l11 : K.lookup f11 = some ⟨oc11, od11, .func (PySem.W.fnOf "are_all" "are_all" (defArgs s_are_all) (defBody s_are_all) (defScope s_are_all) .none kV11 dc11 pm11 an11 cd11 ct11), sl11⟩) (c11 : PySem.W.codeIn K cd11 "are_all" = true) (k11 : PySem.W.keepIn K (.ref f11) = true)
    (a12 : PySem.W.nsIn K mainGlobals "is_led" = some (some (.ref f12))) (l12 : K.lookup f12 = some ⟨oc12, od12, .func (PySem.W.fnOf "is_led" "is_led" (defArgs s_is_led) (defBody s_is_led) (defScope s_is_led) .none kV12 dc12 pm12 an12 cd12 ct12), sl12⟩) (c12 : PySem.W.codeIn K cd12 "is_led" = true) (k12 : PySem.W.keepIn K (.ref f12) = true)
    (a13 : PySem.W.nsIn K mainGlobals "is_body" = some (some (.ref f13))) (l13 : K.lookup f13 = some ⟨oc13, od13, .func (PySem.W.fnOf "is_body" "is_body" (defArgs s_is_body) (defBody s_is_body) (defScope s_is_body) .none kV13 dc13 pm13 an13 cd13 ct13), sl13⟩) (c13 : PySem.W.codeIn K cd13 "is_body" = true) (k13 : PySem.W.keepIn K (.ref f13) = true)
    (a14 : PySem.W.nsIn K mainGlobals "is_full" = some (some (.ref f14))) (l14 : K.lookup f14 = some ⟨oc14, od14, .func (PySem.W.fnOf "is_full" "is_full" (defArgs s_is_full) (defBody s_is_full) (defScope s_is_full) .none kV14 dc14 pm14 an14 cd14 ct14), sl14⟩) (c14 : PySem.W.codeIn K cd14 "is_full" = true) (k14 : PySem.W.keepIn K (.ref f14) = true)
    (a15 : PySem.W.nsIn K mainGlobals "harmed" = some (some (.ref f15))) (l15 : K.lookup f15 = some ⟨oc15, od15, .func (PySem.W.fnOf "harmed" "harmed" (defArgs s_harmed) (defBody s_harmed) (defScope s_harmed) .none kV15 dc15 pm15 an15 cd15 ct15), sl15⟩) (c15 : PySem.W.codeIn K cd15 "harmed" = true) (k15 : PySem.W.keepIn K (.ref f15) = true)
    (a16 : PySem.W.nsIn K mainGlobals "cell_moments" = some (some (.ref f16))) (l16 : K.lookup f16 = some ⟨oc16, od16, .func (PySem.W.fnOf "cell_moments" "cell_moments" (defArgs s_cell_moments) (defBody s_cell_moments) (defScope s_cell_moments) .none kV16 dc16 pm16 an16 cd16 ct16), sl16⟩) (c16 : PySem.W.codeIn K cd16 "cell_moments" = true) (k16 : PySem.W.keepIn K (.ref f16) = true)
    (a17 : PySem.W.nsIn K mainGlobals "mark_moments" = some (some (.ref f17))) (l17 : K.lookup f17 = some ⟨oc17, od17, .func (PySem.W.fnOf "mark_moments" "mark_moments" (defArgs s_mark_moments) (defBody s_mark_moments) (defScope s_mark_moments) .none kV17 dc17 pm17 an17 cd17 ct17), sl17⟩) (c17 : PySem.W.codeIn K cd17 "mark_moments" = true) (k17 : PySem.W.keepIn K (.ref f17) = true)
    (a18 : PySem.W.nsIn K mainGlobals "hearing_of" = some (some (.ref f18))) (l18 : K.lookup f18 = some ⟨oc18, od18, .func (PySem.W.fnOf "hearing_of" "hearing_of" (defArgs s_hearing_of) (defBody s_hearing_of) (defScope s_hearing_of) .none kV18 dc18 pm18 an18 cd18 ct18), sl18⟩) (c18 : PySem.W.codeIn K cd18 "hearing_of" = true) (k18 : PySem.W.keepIn K (.ref f18) = true)
    (a19 : PySem.W.nsIn K mainGlobals "heard_back" = some (some (.ref f19))) (l19 : K.lookup f19 = some ⟨oc19, od19, .func (PySem.W.fnOf "heard_back" "heard_back" (defArgs s_heard_back) (defBody s_heard_back) (defScope s_heard_back) .none kV19 dc19 pm19 an19 cd19 ct19), sl19⟩) (c19 : PySem.W.codeIn K cd19 "heard_back" = true) (k19 : PySem.W.keepIn K (.ref f19) = true)
    (a20 : PySem.W.nsIn K mainGlobals "heard_slot" = some (some (.ref f20))) (l20 : K.lookup f20 = some ⟨oc20, od20, .func (PySem.W.fnOf "heard_slot" "heard_slot" (defArgs s_heard_slot) (defBody s_heard_slot) (defScope s_heard_slot) .none kV20 dc20 pm20 an20 cd20 ct20), sl20⟩) (c20 : PySem.W.codeIn K cd20 "heard_slot" = true) (k20 : PySem.W.keepIn K (.ref f20) = true)
    (a21 : PySem.W.nsIn K mainGlobals "heard_reel" = some (some (.ref f21))) (l21 : K.lookup f21 = some ⟨oc21, od21, .func (PySem.W.fnOf "heard_reel" "heard_reel" (defArgs s_heard_reel) (defBody s_heard_reel) (defScope s_heard_reel) .none kV21 dc21 pm21 an21 cd21 ct21), sl21⟩) (c21 : PySem.W.codeIn K cd21 "heard_reel" = true) (k21 : PySem.W.keepIn K (.ref f21) = true)
    (a22 : PySem.W.nsIn K mainGlobals "heard_reel_back" = some (some (.ref f22))) (l22 : K.lookup f22 = some ⟨oc22, od22, .func (PySem.W.fnOf "heard_reel_back" "heard_reel_back" (defArgs s_heard_reel_back) (defBody s_heard_reel_back) (defScope s_heard_reel_back) .none kV22 dc22 pm22 an22 cd22 ct22), sl22⟩) (c22 : PySem.W.codeIn K cd22 "heard_reel_back" = true) (k22 : PySem.W.keepIn K (.ref f22) = true)
    (a23 : PySem.W.nsIn K mainGlobals "whole_slots" = some (some (.ref f23))) (l23 : K.lookup f23 = some ⟨oc23, od23, .func (PySem.W.fnOf "whole_slots" "whole_slots" (defArgs s_whole_slots) (defBody s_whole_slots) (defScope s_whole_slots) .none kV23 dc23 pm23 an23 cd23 ct23), sl23⟩) (c23 : PySem.W.codeIn K cd23 "whole_slots" = true) (k23 : PySem.W.keepIn K (.ref f23) = true)
    (a24 : PySem.W.nsIn K mainGlobals "_law_bag" = some (some (.ref f24))) (l24 : K.lookup f24 = some ⟨oc24, od24, .func (PySem.W.fnOf "_law_bag" "_law_bag" (defArgs s_l_bag) (defBody s_l_bag) (defScope s_l_bag) .none kV24 dc24 pm24 an24 cd24 ct24), sl24⟩) (c24 : PySem.W.codeIn K cd24 "_law_bag" = true) (k24 : PySem.W.keepIn K (.ref f24) = true)
    (a25 : PySem.W.nsIn K mainGlobals "_law_take" = some (some (.ref f25))) (l25 : K.lookup f25 = some ⟨oc25, od25, .func (PySem.W.fnOf "_law_take" "_law_take" (defArgs s_l_take) (defBody s_l_take) (defScope s_l_take) .none kV25 dc25 pm25 an25 cd25 ct25), sl25⟩) (c25 : PySem.W.codeIn K cd25 "_law_take" = true) (k25 : PySem.W.keepIn K (.ref f25) = true)
    (a26 : PySem.W.nsIn K mainGlobals "_law_some" = some (some (.ref f26))) (l26 : K.lookup f26 = some ⟨oc26, od26, .func (PySem.W.fnOf "_law_some" "_law_some" (defArgs s_l_some) (defBody s_l_some) (defScope s_l_some) .none kV26 dc26 pm26 an26 cd26 ct26), sl26⟩) (c26 : PySem.W.codeIn K cd26 "_law_some" = true) (k26 : PySem.W.keepIn K (.ref f26) = true)
    (a27 : PySem.W.nsIn K mainGlobals "_law_alike" = some (some (.ref f27))) (l27 : K.lookup f27 = some ⟨oc27, od27, .func (PySem.W.fnOf "_law_alike" "_law_alike" (defArgs s_l_alike) (defBody s_l_alike) (defScope s_l_alike) .none kV27 dc27 pm27 an27 cd27 ct27), sl27⟩) (c27 : PySem.W.codeIn K cd27 "_law_alike" = true) (k27 : PySem.W.keepIn K (.ref f27) = true)
    (a28 : PySem.W.nsIn K mainGlobals "_law_common" = some (some (.ref f28))) (l28 : K.lookup f28 = some ⟨oc28, od28, .func (PySem.W.fnOf "_law_common" "_law_common" (defArgs s_l_common) (defBody s_l_common) (defScope s_l_common) .none kV28 dc28 pm28 an28 cd28 ct28), sl28⟩) (c28 : PySem.W.codeIn K cd28 "_law_common" = true) (k28 : PySem.W.keepIn K (.ref f28) = true)
    (a29 : PySem.W.nsIn K mainGlobals "_law_part" = some (some (.ref f29))) (l29 : K.lookup f29 = some ⟨oc29, od29, .func (PySem.W.fnOf "_law_part" "_law_part" (defArgs s_l_part) (defBody s_l_part) (defScope s_l_part) .none kV29 dc29 pm29 an29 cd29 ct29), sl29⟩) (c29 : PySem.W.codeIn K cd29 "_law_part" = true) (k29 : PySem.W.keepIn K (.ref f29) = true)
    (a30 : PySem.W.nsIn K mainGlobals "_law_add" = some (some (.ref f30))) (l30 : K.lookup f30 = some ⟨oc30, od30, .func (PySem.W.fnOf "_law_add" "_law_add" (defArgs s_l_add) (defBody s_l_add) (defScope s_l_add) .none kV30 dc30 pm30 an30 cd30 ct30), sl30⟩) (c30 : PySem.W.codeIn K cd30 "_law_add" = true) (k30 : PySem.W.keepIn K (.ref f30) = true)
    (a31 : PySem.W.nsIn K mainGlobals "_law_many" = some (some (.ref f31))) (l31 : K.lookup f31 = some ⟨oc31, od31, .func (PySem.W.fnOf "_law_many" "_law_many" (defArgs s_l_many) (defBody s_l_many) (defScope s_l_many) .none kV31 dc31 pm31 an31 cd31 ct31), sl31⟩) (c31 : PySem.W.codeIn K cd31 "_law_many" = true) (k31 : PySem.W.keepIn K (.ref f31) = true)
    (a32 : PySem.W.nsIn K mainGlobals "_law_is_below" = some (some (.ref f32))) (l32 : K.lookup f32 = some ⟨oc32, od32, .func (PySem.W.fnOf "_law_is_below" "_law_is_below" (defArgs s_l_is_below) (defBody s_l_is_below) (defScope s_l_is_below) .none kV32 dc32 pm32 an32 cd32 ct32), sl32⟩) (c32 : PySem.W.codeIn K cd32 "_law_is_below" = true) (k32 : PySem.W.keepIn K (.ref f32) = true)
    (a33 : PySem.W.nsIn K mainGlobals "_law_sums" = some (some (.ref f33))) (l33 : K.lookup f33 = some ⟨oc33, od33, .func (PySem.W.fnOf "_law_sums" "_law_sums" (defArgs s_l_sums) (defBody s_l_sums) (defScope s_l_sums) .none kV33 dc33 pm33 an33 cd33 ct33), sl33⟩) (c33 : PySem.W.codeIn K cd33 "_law_sums" = true) (k33 : PySem.W.keepIn K (.ref f33) = true)
    (a34 : PySem.W.nsIn K mainGlobals "_law_cells" = some (some (.ref f34))) (l34 : K.lookup f34 = some ⟨oc34, od34, .func (PySem.W.fnOf "_law_cells" "_law_cells" (defArgs s_l_cells) (defBody s_l_cells) (defScope s_l_cells) .none kV34 dc34 pm34 an34 cd34 ct34), sl34⟩) (c34 : PySem.W.codeIn K cd34 "_law_cells" = true) (k34 : PySem.W.keepIn K (.ref f34) = true)
    (a35 : PySem.W.nsIn K mainGlobals "_law_phi" = some (some (.ref f35))) (l35 : K.lookup f35 = some ⟨oc35, od35, .func (PySem.W.fnOf "_law_phi" "_law_phi" (defArgs s_l_phi) (defBody s_l_phi) (defScope s_l_phi) .none kV35 dc35 pm35 an35 cd35 ct35), sl35⟩) (c35 : PySem.W.codeIn K cd35 "_law_phi" = true) (k35 : PySem.W.keepIn K (.ref f35) = true)
    (a36 : PySem.W.nsIn K mainGlobals "_law_turn" = some (some (.ref f36))) (l36 : K.lookup f36 = some ⟨oc36, od36, .func (PySem.W.fnOf "_law_turn" "_law_turn" (defArgs s_l_turn) (defBody s_l_turn) (defScope s_l_turn) .none kV36 dc36 pm36 an36 cd36 ct36), sl36⟩) (c36 : PySem.W.codeIn K cd36 "_law_turn" = true) (k36 : PySem.W.keepIn K (.ref f36) = true)
    (a37 : PySem.W.nsIn K mainGlobals "_law_lead_strain" = some (some (.ref f37))) (l37 : K.lookup f37 = some ⟨oc37, od37, .func (PySem.W.fnOf "_law_lead_strain" "_law_lead_strain" (defArgs s_l_lead_strain) (defBody s_l_lead_strain) (defScope s_l_lead_strain) .none kV37 dc37 pm37 an37 cd37 ct37), sl37⟩) (c37 : PySem.W.codeIn K cd37 "_law_lead_strain" = true) (k37 : PySem.W.keepIn K (.ref f37) = true)
    (a38 : PySem.W.nsIn K mainGlobals "_law_pull" = some (some (.ref f38))) (l38 : K.lookup f38 = some ⟨oc38, od38, .func (PySem.W.fnOf "_law_pull" "_law_pull" (defArgs s_l_pull) (defBody s_l_pull) (defScope s_l_pull) .none kV38 dc38 pm38 an38 cd38 ct38), sl38⟩) (c38 : PySem.W.codeIn K cd38 "_law_pull" = true) (k38 : PySem.W.keepIn K (.ref f38) = true)
    (a39 : PySem.W.nsIn K mainGlobals "_law_far_pull" = some (some (.ref f39))) (l39 : K.lookup f39 = some ⟨oc39, od39, .func (PySem.W.fnOf "_law_far_pull" "_law_far_pull" (defArgs s_l_far_pull) (defBody s_l_far_pull) (defScope s_l_far_pull) .none kV39 dc39 pm39 an39 cd39 ct39), sl39⟩) (c39 : PySem.W.codeIn K cd39 "_law_far_pull" = true) (k39 : PySem.W.keepIn K (.ref f39) = true)
    (a40 : PySem.W.nsIn K mainGlobals "_law_needed" = some (some (.ref f40))) (l40 : K.lookup f40 = some ⟨oc40, od40, .func (PySem.W.fnOf "_law_needed" "_law_needed" (defArgs s_l_needed) (defBody s_l_needed) (defScope s_l_needed) .none kV40 dc40 pm40 an40 cd40 ct40), sl40⟩) (c40 : PySem.W.codeIn K cd40 "_law_needed" = true) (k40 : PySem.W.keepIn K (.ref f40) = true)
    (a41 : PySem.W.nsIn K mainGlobals "_law_fraction" = some (some (.ref f41))) (l41 : K.lookup f41 = some ⟨oc41, od41, .func (PySem.W.fnOf "_law_fraction" "_law_fraction" (defArgs s_l_fraction) (defBody s_l_fraction) (defScope s_l_fraction) .none kV41 dc41 pm41 an41 cd41 ct41), sl41⟩) (c41 : PySem.W.codeIn K cd41 "_law_fraction" = true) (k41 : PySem.W.keepIn K (.ref f41) = true)
    (a42 : PySem.W.nsIn K mainGlobals "_law_shape_of_bounds" = some (some (.ref f42))) (l42 : K.lookup f42 = some ⟨oc42, od42, .func (PySem.W.fnOf "_law_shape_of_bounds" "_law_shape_of_bounds" (defArgs s_l_shape_of_bounds) (defBody s_l_shape_of_bounds) (defScope s_l_shape_of_bounds) .none kV42 dc42 pm42 an42 cd42 ct42), sl42⟩) (c42 : PySem.W.codeIn K cd42 "_law_shape_of_bounds" = true) (k42 : PySem.W.keepIn K (.ref f42) = true)
    (a43 : PySem.W.nsIn K mainGlobals "_law_least_cell" = some (some (.ref f43))) (l43 : K.lookup f43 = some ⟨oc43, od43, .func (PySem.W.fnOf "_law_least_cell" "_law_least_cell" (defArgs s_l_least_cell) (defBody s_l_least_cell) (defScope s_l_least_cell) .none kV43 dc43 pm43 an43 cd43 ct43), sl43⟩) (c43 : PySem.W.codeIn K cd43 "_law_least_cell" = true) (k43 : PySem.W.keepIn K (.ref f43) = true)
    (a44 : PySem.W.nsIn K mainGlobals "_law_least_watchful_cell" = some (some (.ref f44))) (l44 : K.lookup f44 = some ⟨oc44, od44, .func (PySem.W.fnOf "_law_least_watchful_cell" "_law_least_watchful_cell" (defArgs s_l_least_watchful_cell) (defBody s_l_least_watchful_cell) (defScope s_l_least_watchful_cell) .none kV44 dc44 pm44 an44 cd44 ct44), sl44⟩) (c44 : PySem.W.codeIn K cd44 "_law_least_watchful_cell" = true) (k44 : PySem.W.keepIn K (.ref f44) = true)
    (a45 : PySem.W.nsIn K mainGlobals "_law_bounds" = some (some (.ref f45))) (l45 : K.lookup f45 = some ⟨oc45, od45, .func (PySem.W.fnOf "_law_bounds" "_law_bounds" (defArgs s_l_bounds) (defBody s_l_bounds) (defScope s_l_bounds) .none kV45 dc45 pm45 an45 cd45 ct45), sl45⟩) (c45 : PySem.W.codeIn K cd45 "_law_bounds" = true) (k45 : PySem.W.keepIn K (.ref f45) = true)
    (a46 : PySem.W.nsIn K mainGlobals "_law_lead" = some (some (.ref f46))) (l46 : K.lookup f46 = some ⟨oc46, od46, .func (PySem.W.fnOf "_law_lead" "_law_lead" (defArgs s_l_lead) (defBody s_l_lead) (defScope s_l_lead) .none kV46 dc46 pm46 an46 cd46 ct46), sl46⟩) (c46 : PySem.W.codeIn K cd46 "_law_lead" = true) (k46 : PySem.W.keepIn K (.ref f46) = true)
    (a47 : PySem.W.nsIn K mainGlobals "_law_ride" = some (some (.ref f47))) (l47 : K.lookup f47 = some ⟨oc47, od47, .func (PySem.W.fnOf "_law_ride" "_law_ride" (defArgs s_l_ride) (defBody s_l_ride) (defScope s_l_ride) .none kV47 dc47 pm47 an47 cd47 ct47), sl47⟩) (c47 : PySem.W.codeIn K cd47 "_law_ride" = true) (k47 : PySem.W.keepIn K (.ref f47) = true)
    (a48 : PySem.W.nsIn K mainGlobals "_law_telling" = some (some (.ref f48))) (l48 : K.lookup f48 = some ⟨oc48, od48, .func (PySem.W.fnOf "_law_telling" "_law_telling" (defArgs s_l_telling) (defBody s_l_telling) (defScope s_l_telling) .none kV48 dc48 pm48 an48 cd48 ct48), sl48⟩) (c48 : PySem.W.codeIn K cd48 "_law_telling" = true) (k48 : PySem.W.keepIn K (.ref f48) = true)
    (a49 : PySem.W.nsIn K mainGlobals "_law_shifts" = some (some (.ref f49))) (l49 : K.lookup f49 = some ⟨oc49, od49, .func (PySem.W.fnOf "_law_shifts" "_law_shifts" (defArgs s_l_shifts) (defBody s_l_shifts) (defScope s_l_shifts) .none kV49 dc49 pm49 an49 cd49 ct49), sl49⟩) (c49 : PySem.W.codeIn K cd49 "_law_shifts" = true) (k49 : PySem.W.keepIn K (.ref f49) = true)
    (a50 : PySem.W.nsIn K mainGlobals "_law_in_order" = some (some (.ref f50))) (l50 : K.lookup f50 = some ⟨oc50, od50, .func (PySem.W.fnOf "_law_in_order" "_law_in_order" (defArgs s_l_in_order) (defBody s_l_in_order) (defScope s_l_in_order) .none kV50 dc50 pm50 an50 cd50 ct50), sl50⟩) (c50 : PySem.W.codeIn K cd50 "_law_in_order" = true) (k50 : PySem.W.keepIn K (.ref f50) = true)
    (a51 : PySem.W.nsIn K mainGlobals "_law_hearing" = some (some (.ref f51))) (l51 : K.lookup f51 = some ⟨oc51, od51, .func (PySem.W.fnOf "_law_hearing" "_law_hearing" (defArgs s_l_hearing) (defBody s_l_hearing) (defScope s_l_hearing) .none kV51 dc51 pm51 an51 cd51 ct51), sl51⟩) (c51 : PySem.W.codeIn K cd51 "_law_hearing" = true) (k51 : PySem.W.keepIn K (.ref f51) = true)
    (a52 : PySem.W.nsIn K mainGlobals "_law_bodies" = some (some (.ref f52))) (l52 : K.lookup f52 = some ⟨oc52, od52, .func (PySem.W.fnOf "_law_bodies" "_law_bodies" (defArgs s_l_bodies) (defBody s_l_bodies) (defScope s_l_bodies) .none kV52 dc52 pm52 an52 cd52 ct52), sl52⟩) (c52 : PySem.W.codeIn K cd52 "_law_bodies" = true) (k52 : PySem.W.keepIn K (.ref f52) = true)
    (a53 : PySem.W.nsIn K mainGlobals "_law_form" = some (some (.ref f53))) (l53 : K.lookup f53 = some ⟨oc53, od53, .func (PySem.W.fnOf "_law_form" "_law_form" (defArgs s_l_form) (defBody s_l_form) (defScope s_l_form) .none kV53 dc53 pm53 an53 cd53 ct53), sl53⟩) (c53 : PySem.W.codeIn K cd53 "_law_form" = true) (k53 : PySem.W.keepIn K (.ref f53) = true)
    (a54 : PySem.W.nsIn K mainGlobals "_law_full_row" = some (some (.ref f54))) (l54 : K.lookup f54 = some ⟨oc54, od54, .func (PySem.W.fnOf "_law_full_row" "_law_full_row" (defArgs s_l_full_row) (defBody s_l_full_row) (defScope s_l_full_row) .none kV54 dc54 pm54 an54 cd54 ct54), sl54⟩) (c54 : PySem.W.codeIn K cd54 "_law_full_row" = true) (k54 : PySem.W.keepIn K (.ref f54) = true)
    (a55 : PySem.W.nsIn K mainGlobals "_law_slot" = some (some (.ref f55))) (l55 : K.lookup f55 = some ⟨oc55, od55, .func (PySem.W.fnOf "_law_slot" "_law_slot" (defArgs s_l_slot) (defBody s_l_slot) (defScope s_l_slot) .none kV55 dc55 pm55 an55 cd55 ct55), sl55⟩) (c55 : PySem.W.codeIn K cd55 "_law_slot" = true) (k55 : PySem.W.keepIn K (.ref f55) = true)
    (a56 : PySem.W.nsIn K mainGlobals "_law_harmed" = some (some (.ref f56))) (l56 : K.lookup f56 = some ⟨oc56, od56, .func (PySem.W.fnOf "_law_harmed" "_law_harmed" (defArgs s_l_harmed) (defBody s_l_harmed) (defScope s_l_harmed) .none kV56 dc56 pm56 an56 cd56 ct56), sl56⟩) (c56 : PySem.W.codeIn K cd56 "_law_harmed" = true) (k56 : PySem.W.keepIn K (.ref f56) = true)
    (a57 : PySem.W.nsIn K mainGlobals "_law_mild_harm" = some (some (.ref f57))) (l57 : K.lookup f57 = some ⟨oc57, od57, .func (PySem.W.fnOf "_law_mild_harm" "_law_mild_harm" (defArgs s_l_mild_harm) (defBody s_l_mild_harm) (defScope s_l_mild_harm) .none kV57 dc57 pm57 an57 cd57 ct57), sl57⟩) (c57 : PySem.W.codeIn K cd57 "_law_mild_harm" = true) (k57 : PySem.W.keepIn K (.ref f57) = true)
    (a58 : PySem.W.nsIn K mainGlobals "_law_clicks" = some (some (.ref f58))) (l58 : K.lookup f58 = some ⟨oc58, od58, .func (PySem.W.fnOf "_law_clicks" "_law_clicks" (defArgs s_l_clicks) (defBody s_l_clicks) (defScope s_l_clicks) .none kV58 dc58 pm58 an58 cd58 ct58), sl58⟩) (c58 : PySem.W.codeIn K cd58 "_law_clicks" = true) (k58 : PySem.W.keepIn K (.ref f58) = true)
    (a59 : PySem.W.nsIn K mainGlobals "_law_is_full" = some (some (.ref f59))) (l59 : K.lookup f59 = some ⟨oc59, od59, .func (PySem.W.fnOf "_law_is_full" "_law_is_full" (defArgs s_l_is_full) (defBody s_l_is_full) (defScope s_l_is_full) .none kV59 dc59 pm59 an59 cd59 ct59), sl59⟩) (c59 : PySem.W.codeIn K cd59 "_law_is_full" = true) (k59 : PySem.W.keepIn K (.ref f59) = true)
    (a60 : PySem.W.nsIn K mainGlobals "_law_item" = some (some (.ref f60))) (l60 : K.lookup f60 = some ⟨oc60, od60, .func (PySem.W.fnOf "_law_item" "_law_item" (defArgs s_l_item) (defBody s_l_item) (defScope s_l_item) .none kV60 dc60 pm60 an60 cd60 ct60), sl60⟩) (c60 : PySem.W.codeIn K cd60 "_law_item" = true) (k60 : PySem.W.keepIn K (.ref f60) = true)
    (a61 : PySem.W.nsIn K mainGlobals "_law_heard" = some (some (.ref f61))) (l61 : K.lookup f61 = some ⟨oc61, od61, .func (PySem.W.fnOf "_law_heard" "_law_heard" (defArgs s_l_heard) (defBody s_l_heard) (defScope s_l_heard) .none kV61 dc61 pm61 an61 cd61 ct61), sl61⟩) (c61 : PySem.W.codeIn K cd61 "_law_heard" = true) (k61 : PySem.W.keepIn K (.ref f61) = true)
    (a62 : PySem.W.nsIn K mainGlobals "_law_back" = some (some (.ref f62))) (l62 : K.lookup f62 = some ⟨oc62, od62, .func (PySem.W.fnOf "_law_back" "_law_back" (defArgs s_l_back) (defBody s_l_back) (defScope s_l_back) .none kV62 dc62 pm62 an62 cd62 ct62), sl62⟩) (c62 : PySem.W.codeIn K cd62 "_law_back" = true) (k62 : PySem.W.keepIn K (.ref f62) = true)
    (a63 : PySem.W.nsIn K mainGlobals "_law_reel_and_night" = some (some (.ref f63))) (l63 : K.lookup f63 = some ⟨oc63, od63, .func (PySem.W.fnOf "_law_reel_and_night" "_law_reel_and_night" (defArgs s_l_reel_and_night) (defBody s_l_reel_and_night) (defScope s_l_reel_and_night) .none kV63 dc63 pm63 an63 cd63 ct63), sl63⟩) (c63 : PySem.W.codeIn K cd63 "_law_reel_and_night" = true) (k63 : PySem.W.keepIn K (.ref f63) = true)
    (a64 : PySem.W.nsIn K mainGlobals "law" = some (some (.ref f64))) (l64 : K.lookup f64 = some ⟨oc64, od64, .func (PySem.W.fnOf "law" "law" (defArgs s_law) (defBody s_law) (defScope s_law) .none kV64 dc64 pm64 an64 cd64 ct64), sl64⟩) (c64 : PySem.W.codeIn K cd64 "law" = true) (k64 : PySem.W.keepIn K (.ref f64) = true)
    (z_abs : PySem.W.nsIn K mainGlobals "abs" = some none)
    (z_all : PySem.W.nsIn K mainGlobals "all" = some none)
    (z_bool : PySem.W.nsIn K mainGlobals "bool" = some none)
    (z_enumerate : PySem.W.nsIn K mainGlobals "enumerate" = some none)
    (z_int : PySem.W.nsIn K mainGlobals "int" = some none)
    (z_isinstance : PySem.W.nsIn K mainGlobals "isinstance" = some none)
    (z_len : PySem.W.nsIn K mainGlobals "len" = some none)
    (z_list : PySem.W.nsIn K mainGlobals "list" = some none)
    (z_max : PySem.W.nsIn K mainGlobals "max" = some none)
    (z_min : PySem.W.nsIn K mainGlobals "min" = some none)
    (z_range : PySem.W.nsIn K mainGlobals "range" = some none)
    (z_repr : PySem.W.nsIn K mainGlobals "repr" = some none)
    (z_sum : PySem.W.nsIn K mainGlobals "sum" = some none)
    (z_tuple : PySem.W.nsIn K mainGlobals "tuple" = some none)
    (z_zip : PySem.W.nsIn K mainGlobals "zip" = some none)
    (z_gcd : PySem.W.nsIn K mainGlobals "gcd" = some (some (.builtin "math.gcd")))
    : ∃ fd : FuncData, (∀ (s : Shared) (u : Value), BindsTo s fd ⟨[u], []⟩ [("script", u)]) ∧ ∀ base : Heap, K.In base → base.Ns mainGlobals mg → FnG l.prog w K mg base 17 fa fd ["script"] (SpLaw K) := by
  have e := hfa.symm.trans (PySem.W.mg_of X G a64)
  cases e
  have B : Bt mg := ⟨PySem.W.mg_none_of X G z_abs, PySem.W.mg_none_of X G z_all, PySem.W.mg_none_of X G z_bool, PySem.W.mg_none_of X G z_enumerate, PySem.W.mg_none_of X G z_int, PySem.W.mg_none_of X G z_isinstance, PySem.W.mg_none_of X G z_len, PySem.W.mg_none_of X G z_list, PySem.W.mg_none_of X G z_max, PySem.W.mg_none_of X G z_min, PySem.W.mg_none_of X G z_range, PySem.W.mg_none_of X G z_repr, PySem.W.mg_none_of X G z_sum, PySem.W.mg_none_of X G z_tuple, PySem.W.mg_none_of X G z_zip, PySem.W.mg_of X G z_gcd⟩
  have T0 : Stands K mg "cells_of" s_cells_of ["row"] := stands X G a0 l0 c0 k0 fun _ _ _ _ _ _ us hl => match us, hl with | [_], _ => rfl
  have T1 : Stands K mg "negated" s_negated ["one"] := stands X G a1 l1 c1 k1 fun _ _ _ _ _ _ us hl => match us, hl with | [_], _ => rfl
  have T2 : Stands K mg "added" s_added ["one", "other"] := stands X G a2 l2 c2 k2 fun _ _ _ _ _ _ us hl => match us, hl with | [_, _], _ => rfl
  have T3 : Stands K mg "compared" s_compared ["one", "other"] := stands X G a3 l3 c3 k3 fun _ _ _ _ _ _ us hl => match us, hl with | [_, _], _ => rfl
  have T4 : Stands K mg "merged" s_merged ["some", "others"] := stands X G a4 l4 c4 k4 fun _ _ _ _ _ _ us hl => match us, hl with | [_, _], _ => rfl
  have T5 : Stands K mg "merged_by" s_merged_by ["order", "some", "others"] := stands X G a5 l5 c5 k5 fun _ _ _ _ _ _ us hl => match us, hl with | [_, _, _], _ => rfl
  have T6 : Stands K mg "in_order" s_in_order ["some"] := stands X G a6 l6 c6 k6 fun _ _ _ _ _ _ us hl => match us, hl with | [_], _ => rfl
  have T7 : Stands K mg "in_order_by" s_in_order_by ["order", "some"] := stands X G a7 l7 c7 k7 fun _ _ _ _ _ _ us hl => match us, hl with | [_, _], _ => rfl
  have T8 : Stands K mg "is_integer" s_is_integer ["thing"] := stands X G a8 l8 c8 k8 fun _ _ _ _ _ _ us hl => match us, hl with | [_], _ => rfl
  have T9 : Stands K mg "is_run" s_is_run ["bounds", "thing"] := stands X G a9 l9 c9 k9 fun _ _ _ _ _ _ us hl => match us, hl with | [_, _], _ => rfl
  have T10 : Stands K mg "is_row" s_is_row ["bounds", "thing"] := stands X G a10 l10 c10 k10 fun _ _ _ _ _ _ us hl => match us, hl with | [_, _], _ => rfl
  have T11 : Stands K mg "are_all" s_are_all ["run", "runs"] := stands X G a11 l11 c11 k11 fun _ _ _ _ _ _ us hl => match us, hl with | [_, _], _ => rfl
  have T12 : Stands K mg "is_led" s_is_led ["bounds", "thing"] := stands X G a12 l12 c12 k12 fun _ _ _ _ _ _ us hl => match us, hl with | [_, _], _ => rfl
  have T13 : Stands K mg "is_body" s_is_body ["form", "thing"] := stands X G a13 l13 c13 k13 fun _ _ _ _ _ _ us hl => match us, hl with | [_, _], _ => rfl
  have T14 : Stands K mg "is_full" s_is_full ["form", "thing"] := stands X G a14 l14 c14 k14 fun _ _ _ _ _ _ us hl => match us, hl with | [_, _], _ => rfl
  have T15 : Stands K mg "harmed" s_harmed ["hearing", "harm"] := stands X G a15 l15 c15 k15 fun _ _ _ _ _ _ us hl => match us, hl with | [_, _], _ => rfl
  have T16 : Stands K mg "cell_moments" s_cell_moments ["telling"] := stands X G a16 l16 c16 k16 fun _ _ _ _ _ _ us hl => match us, hl with | [_], _ => rfl
  have T17 : Stands K mg "mark_moments" s_mark_moments ["telling", "row"] := stands X G a17 l17 c17 k17 fun _ _ _ _ _ _ us hl => match us, hl with | [_, _], _ => rfl
  have T18 : Stands K mg "hearing_of" s_hearing_of ["telling", "row", "shifts"] := stands X G a18 l18 c18 k18 fun _ _ _ _ _ _ us hl => match us, hl with | [_, _, _], _ => rfl
  have T19 : Stands K mg "heard_back" s_heard_back ["hearing"] := stands X G a19 l19 c19 k19 fun _ _ _ _ _ _ us hl => match us, hl with | [_], _ => rfl
  have T20 : Stands K mg "heard_slot" s_heard_slot ["slot", "one"] := stands X G a20 l20 c20 k20 fun _ _ _ _ _ _ us hl => match us, hl with | [_, _], _ => rfl
  have T21 : Stands K mg "heard_reel" s_heard_reel ["reel", "night"] := stands X G a21 l21 c21 k21 fun _ _ _ _ _ _ us hl => match us, hl with | [_, _], _ => rfl
  have T22 : Stands K mg "heard_reel_back" s_heard_reel_back ["reel", "night"] := stands X G a22 l22 c22 k22 fun _ _ _ _ _ _ us hl => match us, hl with | [_, _], _ => rfl
  have T23 : Stands K mg "whole_slots" s_whole_slots ["form", "reel", "night"] := stands X G a23 l23 c23 k23 fun _ _ _ _ _ _ us hl => match us, hl with | [_, _, _], _ => rfl
  have T24 : Stands K mg "_law_bag" s_l_bag ["script"] := stands X G a24 l24 c24 k24 fun _ _ _ _ _ _ us hl => match us, hl with | [_], _ => rfl
  have T25 : Stands K mg "_law_take" s_l_take ["bag", "many"] := stands X G a25 l25 c25 k25 fun _ _ _ _ _ _ us hl => match us, hl with | [_, _], _ => rfl
  have T26 : Stands K mg "_law_some" s_l_some ["bag", "things"] := stands X G a26 l26 c26 k26 fun _ _ _ _ _ _ us hl => match us, hl with | [_, _], _ => rfl
  have T27 : Stands K mg "_law_alike" s_l_alike ["found", "due"] := stands X G a27 l27 c27 k27 fun _ _ _ _ _ _ us hl => match us, hl with | [_, _], _ => rfl
  have T28 : Stands K mg "_law_common" s_l_common ["one", "other"] := stands X G a28 l28 c28 k28 fun _ _ _ _ _ _ us hl => match us, hl with | [_, _], _ => rfl
  have T29 : Stands K mg "_law_part" s_l_part ["n", "d"] := stands X G a29 l29 c29 k29 fun _ _ _ _ _ _ us hl => match us, hl with | [_, _], _ => rfl
  have T30 : Stands K mg "_law_add" s_l_add ["one", "other"] := stands X G a30 l30 c30 k30 fun _ _ _ _ _ _ us hl => match us, hl with | [_, _], _ => rfl
  have T31 : Stands K mg "_law_many" s_l_many ["one", "many"] := stands X G a31 l31 c31 k31 fun _ _ _ _ _ _ us hl => match us, hl with | [_, _], _ => rfl
  have T32 : Stands K mg "_law_is_below" s_l_is_below ["one", "other"] := stands X G a32 l32 c32 k32 fun _ _ _ _ _ _ us hl => match us, hl with | [_, _], _ => rfl
  have T33 : Stands K mg "_law_sums" s_l_sums ["telling"] := stands X G a33 l33 c33 k33 fun _ _ _ _ _ _ us hl => match us, hl with | [_], _ => rfl
  have T34 : Stands K mg "_law_cells" s_l_cells ["row"] := stands X G a34 l34 c34 k34 fun _ _ _ _ _ _ us hl => match us, hl with | [_], _ => rfl
  have T35 : Stands K mg "_law_phi" s_l_phi ["bounds", "t"] := stands X G a35 l35 c35 k35 fun _ _ _ _ _ _ us hl => match us, hl with | [_, _], _ => rfl
  have T36 : Stands K mg "_law_turn" s_l_turn ["bounds"] := stands X G a36 l36 c36 k36 fun _ _ _ _ _ _ us hl => match us, hl with | [_], _ => rfl
  have T37 : Stands K mg "_law_lead_strain" s_l_lead_strain ["bounds", "cells", "least"] := stands X G a37 l37 c37 k37 fun _ _ _ _ _ _ us hl => match us, hl with | [_, _, _], _ => rfl
  have T38 : Stands K mg "_law_pull" s_l_pull ["bounds"] := stands X G a38 l38 c38 k38 fun _ _ _ _ _ _ us hl => match us, hl with | [_], _ => rfl
  have T39 : Stands K mg "_law_far_pull" s_l_far_pull ["bounds", "over"] := stands X G a39 l39 c39 k39 fun _ _ _ _ _ _ us hl => match us, hl with | [_, _], _ => rfl
  have T40 : Stands K mg "_law_needed" s_l_needed ["bounds", "run", "most"] := stands X G a40 l40 c40 k40 fun _ _ _ _ _ _ us hl => match us, hl with | [_, _, _], _ => rfl
  have T41 : Stands K mg "_law_fraction" s_l_fraction ["bag", "wide"] := stands X G a41 l41 c41 k41 fun _ _ _ _ _ _ us hl => match us, hl with | [_, _], _ => rfl
  have T42 : Stands K mg "_law_shape_of_bounds" s_l_shape_of_bounds ["bag", "most"] := stands X G a42 l42 c42 k42 fun _ _ _ _ _ _ us hl => match us, hl with | [_, _], _ => rfl
  have T43 : Stands K mg "_law_least_cell" s_l_least_cell ["drift", "shift", "lo", "most", "lead"] := stands X G a43 l43 c43 k43 fun _ _ _ _ _ _ us hl => match us, hl with | [_, _, _, _, _], _ => rfl
  have T44 : Stands K mg "_law_least_watchful_cell" s_l_least_watchful_cell ["drift", "shift", "lo", "most", "lead"] := stands X G a44 l44 c44 k44 fun _ _ _ _ _ _ us hl => match us, hl with | [_, _, _, _, _], _ => rfl
  have T45 : Stands K mg "_law_bounds" s_l_bounds ["bag", "most"] := stands X G a45 l45 c45 k45 fun _ _ _ _ _ _ us hl => match us, hl with | [_, _], _ => rfl
  have T46 : Stands K mg "_law_lead" s_l_lead ["bounds"] := stands X G a46 l46 c46 k46 fun _ _ _ _ _ _ us hl => match us, hl with | [_], _ => rfl
  have T47 : Stands K mg "_law_ride" s_l_ride ["bag", "bounds", "cells"] := stands X G a47 l47 c47 k47 fun _ _ _ _ _ _ us hl => match us, hl with | [_, _, _], _ => rfl
  have T48 : Stands K mg "_law_telling" s_l_telling ["bag", "bounds", "cells"] := stands X G a48 l48 c48 k48 fun _ _ _ _ _ _ us hl => match us, hl with | [_, _, _], _ => rfl
  have T49 : Stands K mg "_law_shifts" s_l_shifts ["bag", "bounds", "marks"] := stands X G a49 l49 c49 k49 fun _ _ _ _ _ _ us hl => match us, hl with | [_, _, _], _ => rfl
  have T50 : Stands K mg "_law_in_order" s_l_in_order ["some"] := stands X G a50 l50 c50 k50 fun _ _ _ _ _ _ us hl => match us, hl with | [_], _ => rfl
  have T51 : Stands K mg "_law_hearing" s_l_hearing ["telling", "row", "shifts"] := stands X G a51 l51 c51 k51 fun _ _ _ _ _ _ us hl => match us, hl with | [_, _, _], _ => rfl
  have T52 : Stands K mg "_law_bodies" s_l_bodies ["bounds", "data"] := stands X G a52 l52 c52 k52 fun _ _ _ _ _ _ us hl => match us, hl with | [_, _], _ => rfl
  have T53 : Stands K mg "_law_form" s_l_form ["bag", "bounds", "most"] := stands X G a53 l53 c53 k53 fun _ _ _ _ _ _ us hl => match us, hl with | [_, _, _], _ => rfl
  have T54 : Stands K mg "_law_full_row" s_l_full_row ["bag", "form"] := stands X G a54 l54 c54 k54 fun _ _ _ _ _ _ us hl => match us, hl with | [_, _], _ => rfl
  have T55 : Stands K mg "_law_slot" s_l_slot ["bag", "form"] := stands X G a55 l55 c55 k55 fun _ _ _ _ _ _ us hl => match us, hl with | [_, _], _ => rfl
  have T56 : Stands K mg "_law_harmed" s_l_harmed ["hearing", "harm"] := stands X G a56 l56 c56 k56 fun _ _ _ _ _ _ us hl => match us, hl with | [_, _], _ => rfl
  have T57 : Stands K mg "_law_mild_harm" s_l_mild_harm ["bag", "form", "slot", "hearing"] := stands X G a57 l57 c57 k57 fun _ _ _ _ _ _ us hl => match us, hl with | [_, _, _, _], _ => rfl
  have T58 : Stands K mg "_law_clicks" s_l_clicks ["bag", "hearing"] := stands X G a58 l58 c58 k58 fun _ _ _ _ _ _ us hl => match us, hl with | [_, _], _ => rfl
  have T59 : Stands K mg "_law_is_full" s_l_is_full ["form", "slot"] := stands X G a59 l59 c59 k59 fun _ _ _ _ _ _ us hl => match us, hl with | [_, _], _ => rfl
  have T60 : Stands K mg "_law_item" s_l_item ["bag", "form", "slot"] := stands X G a60 l60 c60 k60 fun _ _ _ _ _ _ us hl => match us, hl with | [_, _, _], _ => rfl
  have T61 : Stands K mg "_law_heard" s_l_heard ["slot", "one"] := stands X G a61 l61 c61 k61 fun _ _ _ _ _ _ us hl => match us, hl with | [_, _], _ => rfl
  have T62 : Stands K mg "_law_back" s_l_back ["hearing"] := stands X G a62 l62 c62 k62 fun _ _ _ _ _ _ us hl => match us, hl with | [_], _ => rfl
  have T63 : Stands K mg "_law_reel_and_night" s_l_reel_and_night ["bag", "form", "most"] := stands X G a63 l63 c63 k63 fun _ _ _ _ _ _ us hl => match us, hl with | [_, _, _], _ => rfl
  refine ⟨PySem.W.fnOf "law" "law" (defArgs s_law) (defBody s_law) (defScope s_law) .none kV64 dc64 pm64 an64 cd64 ct64, fun s v => .of_eq rfl, fun base _ _ => ?_⟩
  have D1 := ok_negated (P := l.prog) (w := w) (base := base) T1
  have D2 := ok_added (P := l.prog) (w := w) (base := base) B T2
  have D3 := ok_compared (P := l.prog) (w := w) (base := base) T3
  obtain ⟨f0, fd0, m0, k0, b0, F0⟩ := D3.ex
  have D0 := ok_cells_of (P := l.prog) (w := w) (base := base) B T0
  have D24 := ok_bag (P := l.prog) (w := w) (base := base) B T24
  have D25 := ok_take (P := l.prog) (w := w) (base := base) B T25
  have D26 := ok_l_some (P := l.prog) (w := w) (base := base) B D25 T26
  have D27 := ok_alike (P := l.prog) (w := w) (base := base) B T27
  have D28 := ok_l_common (P := l.prog) (w := w) (base := base) B T28
  have D29 := ok_l_part (P := l.prog) (w := w) (base := base) B D28 T29
  have D30 := ok_l_add (P := l.prog) (w := w) (base := base) B D29 T30
  have D31 := ok_l_many (P := l.prog) (w := w) (base := base) B D29 T31
  have D32 := ok_l_is_below (P := l.prog) (w := w) (base := base) B T32
  have D35 := ok_l_phi (P := l.prog) (w := w) (base := base) B D30 D29 D31 T35
  have D36 := ok_l_turn (P := l.prog) (w := w) (base := base) B T36
  have D37 := ok_l_lead_strain (P := l.prog) (w := w) (base := base) B D35 D32 T37
  have D39 := ok_l_far_pull (P := l.prog) (w := w) (base := base) B D35 D32 T39
  have D38 := ok_l_pull (P := l.prog) (w := w) (base := base) B D36 D35 D39 D37 D32 T38
  have D40 := ok_l_needed (P := l.prog) (w := w) (base := base) B D30 D31 T40
  have D41 := ok_l_fraction (P := l.prog) (w := w) (base := base) B D29 D25 D26 T41
  have D42 := ok_l_shape_of_bounds (P := l.prog) (w := w) (base := base) B D26 D25 D41 T42
  have D43 := ok_l_least_cell (P := l.prog) (w := w) (base := base) B D40 D38 T43
  have D44 := ok_l_least_watchful_cell (P := l.prog) (w := w) (base := base) B D40 D38 D43 T44
  have D45 := ok_l_bounds (P := l.prog) (w := w) (base := base) B D42 D43 D25 D44 D26 T45
  have D5 := ok_merged_by (P := l.prog) (w := w) (base := base) B m0 k0 b0 F0 T5
  have D4 := ok_merged (P := l.prog) (w := w) (base := base) m0 k0 b0 F0 D5 T4
  have D7 := ok_in_order_by (P := l.prog) (w := w) (base := base) B m0 k0 b0 F0 D5 T7 8
  have D6 := ok_p_order (P := l.prog) (w := w) (base := base) m0 k0 b0 F0 D7 T6
  have D16 := ok_cell_moments (P := l.prog) (w := w) (base := base) D2 B T16
  have D17 := ok_mark_moments (P := l.prog) (w := w) (base := base) B D16 D0 T17
  have D18 := ok_hearing_of (P := l.prog) (w := w) (base := base) B D17 D2 D6 T18
  have D19 := ok_heard_back (P := l.prog) (w := w) (base := base) B D1 T19
  have D15 := ok_harmed (P := l.prog) (w := w) (base := base) B D4 T15
  have D8 := ok_is_integer (P := l.prog) (w := w) (base := base) B T8
  have D9 := ok_is_run (P := l.prog) (w := w) (base := base) B D8 T9
  have D10 := ok_is_row (P := l.prog) (w := w) (base := base) B D9 T10
  have D11 := ok_are_all (P := l.prog) (w := w) (base := base) B T11
  have D12 := ok_is_led (P := l.prog) (w := w) (base := base) B D10 D11 T12
  have D13 := ok_is_body (P := l.prog) (w := w) (base := base) B D10 T13
  have D14 := ok_is_full (P := l.prog) (w := w) (base := base) B D11 D13 D12 T14
  have D20 := ok_heard_slot (P := l.prog) (w := w) (base := base) B D15 D18 T20
  have D21 := ok_heard_reel (P := l.prog) (w := w) (base := base) B D20 T21
  have D22 := ok_heard_reel_back (P := l.prog) (w := w) (base := base) B D19 D21 T22
  have D23 := ok_whole_slots (P := l.prog) (w := w) (base := base) B D14 T23
  have D33 := ok_l_sums (P := l.prog) (w := w) (base := base) B D30 T33
  have D34 := ok_l_cells (P := l.prog) (w := w) (base := base) B T34
  have D46 := ok_l_lead (P := l.prog) (w := w) (base := base) B T46
  have D50 := ok_l_in_order (P := l.prog) (w := w) (base := base) B D32 T50
  have D51 := ok_l_hearing (P := l.prog) (w := w) (base := base) B D33 D50 D30 D34 T51
  have D56 := ok_l_harmed (P := l.prog) (w := w) (base := base) B D50 T56
  have D61 := ok_l_heard (P := l.prog) (w := w) (base := base) B D56 D51 T61
  have D62 := ok_l_back (P := l.prog) (w := w) (base := base) B T62
  have D59 := ok_l_is_full (P := l.prog) (w := w) (base := base) B D46 T59
  have D52 := ok_l_bodies (P := l.prog) (w := w) (base := base) B T52
  have D47 := ok_l_ride (P := l.prog) (w := w) (base := base) B D26 D29 D30 D31 D25 D32 T47
  have D48 := ok_l_telling (P := l.prog) (w := w) (base := base) B D26 D47 T48
  have D49 := ok_l_shifts (P := l.prog) (w := w) (base := base) B D31 D29 D26 T49
  have D58 := ok_l_clicks (P := l.prog) (w := w) (base := base) B D50 D26 D30 D25 T58
  have D53 := ok_l_form (P := l.prog) (w := w) (base := base) B D25 D52 T53
  have D54 := ok_l_full_row (P := l.prog) (w := w) (base := base) B D46 D26 D52 T54
  have D55 := ok_l_slot (P := l.prog) (w := w) (base := base) B D54 D26 D25 T55
  have D57 := ok_l_mild_harm (P := l.prog) (w := w) (base := base) B D26 D59 D58 D25 D32 T57
  have D60 := ok_l_item (P := l.prog) (w := w) (base := base) B D48 D49 D57 D51 T60
  have D63 := ok_l_reel_and_night (P := l.prog) (w := w) (base := base) B D55 D60 D25 T63
  exact ok_law B D24 D53 D63 D45 D27 D21 D22 D23 D58 D61 D25 D51 D59 D26 D20 D62 (fun_mk l64 c64 k64)
end K34
open PySem PySem.W PyProof.Rows
set_option maxHeartbeats 0 in
theorem PySem.Challenge.cw_flutterheld_k34_what_is_heard_of_reels_holds : PySem.Challenge.rw_flutterheld_k34_what_is_heard_of_reels.Holds := by
  w_on; o_law; k_head; (case hw => w_witness2)
  k_fill
  refine Yw.walkG (l := PySem.Challenge.rw_flutterheld_k34_what_is_heard_of_reels) (n := 63) (k := 17) (x := "script") (sp := fun K => Yw.SpLaw K) rfl (by decide) rfl ⟨rfl, by decide, by decide⟩ (fun w h Y => PySem.W.kIn_of Y) ?F (fun K H a ns hl hS => ⟨a, ns, rfl, hS, hl, fun _ => rfl⟩)
  case F =>
    intro w mg fa h KX G hmg
    refine' K34.all_mk KX G hmg ?a0 ?l0 ?c0 ?k0 ?a1 ?l1 ?c1 ?k1 ?a2 ?l2 ?c2 ?k2 ?a3 ?l3 ?c3 ?k3 ?a4 ?l4 ?c4 ?k4 ?a5 ?l5 ?c5 ?k5 ?a6 ?l6 ?c6 ?k6 ?a7 ?l7 ?c7 ?k7 ?a8 ?l8 ?c8 ?k8 ?a9 ?l9 ?c9 ?k9 ?a10 ?l10 ?c10 ?k10 ?a11 ?l11 ?c11 ?k11 ?a12 ?l12 ?c12 ?k12 ?a13 ?l13 ?c13 ?k13 ?a14 ?l14 ?c14 ?k14 ?a15 ?l15 ?c15 ?k15 ?a16 ?l16 ?c16 ?k16 ?a17 ?l17 ?c17 ?k17 ?a18 ?l18 ?c18 ?k18 ?a19 ?l19 ?c19 ?k19 ?a20 ?l20 ?c20 ?k20 ?a21 ?l21 ?c21 ?k21 ?a22 ?l22 ?c22 ?k22 ?a23 ?l23 ?c23 ?k23 ?a24 ?l24 ?c24 ?k24 ?a25 ?l25 ?c25 ?k25 ?a26 ?l26 ?c26 ?k26 ?a27 ?l27 ?c27 ?k27 ?a28 ?l28 ?c28 ?k28 ?a29 ?l29 ?c29 ?k29 ?a30 ?l30 ?c30 ?k30 ?a31 ?l31 ?c31 ?k31 ?a32 ?l32 ?c32 ?k32 ?a33 ?l33 ?c33 ?k33 ?a34 ?l34 ?c34 ?k34 ?a35 ?l35 ?c35 ?k35 ?a36 ?l36 ?c36 ?k36 ?a37 ?l37 ?c37 ?k37 ?a38 ?l38 ?c38 ?k38 ?a39 ?l39 ?c39 ?k39 ?a40 ?l40 ?c40 ?k40 ?a41 ?l41 ?c41 ?k41 ?a42 ?l42 ?c42 ?k42 ?a43 ?l43 ?c43 ?k43 ?a44 ?l44 ?c44 ?k44 ?a45 ?l45 ?c45 ?k45 ?a46 ?l46 ?c46 ?k46 ?a47 ?l47 ?c47 ?k47 ?a48 ?l48 ?c48 ?k48 ?a49 ?l49 ?c49 ?k49 ?a50 ?l50 ?c50 ?k50 ?a51 ?l51 ?c51 ?k51 ?a52 ?l52 ?c52 ?k52 ?a53 ?l53 ?c53 ?k53 ?a54 ?l54 ?c54 ?k54 ?a55 ?l55 ?c55 ?k55 ?a56 ?l56 ?c56 ?k56 ?a57 ?l57 ?c57 ?k57 ?a58 ?l58 ?c58 ?k58 ?a59 ?l59 ?c59 ?k59 ?a60 ?l60 ?c60 ?k60 ?a61 ?l61 ?c61 ?k61 ?a62 ?l62 ?c62 ?k62 ?a63 ?l63 ?c63 ?k63 ?a64 ?l64 ?c64 ?k64 ?z_abs ?z_all ?z_bool ?z_enumerate ?z_int ?z_isinstance ?z_len ?z_list ?z_max ?z_min ?z_range ?z_repr ?z_sum ?z_tuple ?z_zip ?z_gcd
    (case a0 => k_is); (case l0 => k_is); (case c0 => k_is); (case k0 => k_is); (case a1 => k_is); (case l1 => k_is); (case c1 => k_is); (case k1 => k_is); (case a2 => k_is); (case l2 => k_is); (case c2 => k_is); (case k2 => k_is); (case a3 => k_is); (case l3 => k_is); (case c3 => k_is); (case k3 => k_is); (case a4 => k_is); (case l4 => k_is); (case c4 => k_is); (case k4 => k_is); (case a5 => k_is); (case l5 => k_is); (case c5 => k_is); (case k5 => k_is); (case a6 => k_is); (case l6 => k_is); (case c6 => k_is); (case k6 => k_is); (case a7 => k_is); (case l7 => k_is); (case c7 => k_is); (case k7 => k_is); (case a8 => k_is); (case l8 => k_is); (case c8 => k_is); (case k8 => k_is); (case a9 => k_is); (case l9 => k_is); (case c9 => k_is); (case k9 => k_is); (case a10 => k_is); (case l10 => k_is); (case c10 => k_is); (case k10 => k_is); (case a11 => k_is); (case l11 => k_is); (case c11 => k_is); (case k11 => k_is); (case a12 => k_is); (case l12 => k_is); (case c12 => k_is); (case k12 => k_is); (case a13 => k_is); (case l13 => k_is); (case c13 => k_is); (case k13 => k_is); (case a14 => k_is); (case l14 => k_is); (case c14 => k_is); (case k14 => k_is); (case a15 => k_is); (case l15 => k_is); (case c15 => k_is); (case k15 => k_is); (case a16 => k_is); (case l16 => k_is); (case c16 => k_is); (case k16 => k_is); (case a17 => k_is); (case l17 => k_is); (case c17 => k_is); (case k17 => k_is); (case a18 => k_is); (case l18 => k_is); (case c18 => k_is); (case k18 => k_is); (case a19 => k_is); (case l19 => k_is); (case c19 => k_is); (case k19 => k_is); (case a20 => k_is); (case l20 => k_is); (case c20 => k_is); (case k20 => k_is); (case a21 => k_is); (case l21 => k_is); (case c21 => k_is); (case k21 => k_is); (case a22 => k_is); (case l22 => k_is); (case c22 => k_is); (case k22 => k_is); (case a23 => k_is); (case l23 => k_is); (case c23 => k_is); (case k23 => k_is); (case a24 => k_is); (case l24 => k_is); (case c24 => k_is); (case k24 => k_is); (case a25 => k_is); (case l25 => k_is); (case c25 => k_is); (case k25 => k_is); (case a26 => k_is); (case l26 => k_is); (case c26 => k_is); (case k26 => k_is); (case a27 => k_is); (case l27 => k_is); (case c27 => k_is); (case k27 => k_is); (case a28 => k_is); (case l28 => k_is); (case c28 => k_is); (case k28 => k_is); (case a29 => k_is); (case l29 => k_is); (case c29 => k_is); (case k29 => k_is); (case a30 => k_is); (case l30 => k_is); (case c30 => k_is); (case k30 => k_is); (case a31 => k_is); (case l31 => k_is); (case c31 => k_is); (case k31 => k_is); (case a32 => k_is); (case l32 => k_is); (case c32 => k_is); (case k32 => k_is); (case a33 => k_is); (case l33 => k_is); (case c33 => k_is); (case k33 => k_is); (case a34 => k_is); (case l34 => k_is); (case c34 => k_is); (case k34 => k_is); (case a35 => k_is); (case l35 => k_is); (case c35 => k_is); (case k35 => k_is); (case a36 => k_is); (case l36 => k_is); (case c36 => k_is); (case k36 => k_is); (case a37 => k_is); (case l37 => k_is); (case c37 => k_is); (case k37 => k_is); (case a38 => k_is); (case l38 => k_is); (case c38 => k_is); (case k38 => k_is); (case a39 => k_is); (case l39 => k_is); (case c39 => k_is); (case k39 => k_is); (case a40 => k_is); (case l40 => k_is); (case c40 => k_is); (case k40 => k_is); (case a41 => k_is); (case l41 => k_is); (case c41 => k_is); (case k41 => k_is); (case a42 => k_is); (case l42 => k_is); (case c42 => k_is); (case k42 => k_is); (case a43 => k_is); (case l43 => k_is); (case c43 => k_is); (case k43 => k_is); (case a44 => k_is); (case l44 => k_is); (case c44 => k_is); (case k44 => k_is); (case a45 => k_is); (case l45 => k_is); (case c45 => k_is); (case k45 => k_is); (case a46 => k_is); (case l46 => k_is); (case c46 => k_is); (case k46 => k_is); (case a47 => k_is); (case l47 => k_is); (case c47 => k_is); (case k47 => k_is); (case a48 => k_is); (case l48 => k_is); (case c48 => k_is); (case k48 => k_is); (case a49 => k_is); (case l49 => k_is); (case c49 => k_is); (case k49 => k_is); (case a50 => k_is); (case l50 => k_is); (case c50 => k_is); (case k50 => k_is); (case a51 => k_is); (case l51 => k_is); (case c51 => k_is); (case k51 => k_is); (case a52 => k_is); (case l52 => k_is); (case c52 => k_is); (case k52 => k_is); (case a53 => k_is); (case l53 => k_is); (case c53 => k_is); (case k53 => k_is); (case a54 => k_is); (case l54 => k_is); (case c54 => k_is); (case k54 => k_is); (case a55 => k_is); (case l55 => k_is); (case c55 => k_is); (case k55 => k_is); (case a56 => k_is); (case l56 => k_is); (case c56 => k_is); (case k56 => k_is); (case a57 => k_is); (case l57 => k_is); (case c57 => k_is); (case k57 => k_is); (case a58 => k_is); (case l58 => k_is); (case c58 => k_is); (case k58 => k_is); (case a59 => k_is); (case l59 => k_is); (case c59 => k_is); (case k59 => k_is); (case a60 => k_is); (case l60 => k_is); (case c60 => k_is); (case k60 => k_is); (case a61 => k_is); (case l61 => k_is); (case c61 => k_is); (case k61 => k_is); (case a62 => k_is); (case l62 => k_is); (case c62 => k_is); (case k62 => k_is); (case a63 => k_is); (case l63 => k_is); (case c63 => k_is); (case k63 => k_is); (case a64 => k_is); (case l64 => k_is); (case c64 => k_is); (case k64 => k_is); (case z_abs => k_is); (case z_all => k_is); (case z_bool => k_is); (case z_enumerate => k_is); (case z_int => k_is); (case z_isinstance => k_is); (case z_len => k_is); (case z_list => k_is); (case z_max => k_is); (case z_min => k_is); (case z_range => k_is); (case z_repr => k_is); (case z_sum => k_is); (case z_tuple => k_is); (case z_zip => k_is); (case z_gcd => k_is)
