import PyProof.Rows.All
import Wide.All
import OpenK.AllK
import Wide.FinOn
import PySem.Challenge.RW_matchgift_k84_whole_all_wishes_of_small
import HandS.ForMost
import HandS.IsInst
import HandS.TupAny
import HandS.TupMul
import HandS.Wide
import HandS.Flow
import HandS.RaiseMore
import PyProof.ReprRoads
import KE.GoesNew
import KE.KTupSum
import HandS.Walk
import HandS.WideBits
import PyProof.Rows.BitMore
import HandS.Zip
import HandS.Dict
import PyProof.Rows.TupDisplay
import KE.KDictDisplayH
import HandS.Exc
import HandS.ExcOwn
import HandS.EndTab
import HandS.Nested
import KE.SortKeyHeap
import PyProof.TupleOfSeq
import HandS.ExcIs
import HandS.WordsExc
import HandS.Conv
import HandS.Deep
import HandS.Style
set_option Elab.async false
set_option linter.all false
set_option maxRecDepth 100000
set_option maxHeartbeats 2000000
/-! MG: promises of defs that are called where no repr is under way, and repr of data by them. -/
namespace MG
open PySem PySem.Spec PyProof.Rows L2

structure FnG (P : Program) (w : World) (K : PySem.W.Frag) (mg : Str → Option Value) (base : Heap) (k : Nat)
    (f : Addr) (fd : FuncData) (ps : List Str) (sp : Sp) : Prop where
  len : ∀ vs H Q E, sp vs H Q E → vs.length = ps.length
  run : ∀ (A : Around) (outer : List Env) (s : Shared) (H : Hp) (args : Args) (us : List Value) (vs : List V) (Q : VK) (E : XK),
    A.guards = some [] → Room k A → Env0 P w K mg base A outer s H →
    BindsTo s fd args (ps.zip us) → Vals vs us → sp vs H Q E →
    codeAny (model P w) A (.call (.ref f) args) (CR CX0 outer P w H s Q E) s

section
variable {P : Program} {w : World} {K : PySem.W.Frag} {mg : Str → Option Value} {base : Heap}
theorem FnG.of {k : Nat} {f : Addr} {fd : FuncData} {ps : List Str} {sp : Sp}
    (F : FnOk P w K mg base CX0 k f fd ps sp) : FnG P w K mg base k f fd ps sp :=
  ⟨F.len, fun A outer s H args us vs Q E _ => F.run A outer s H args us vs Q E⟩

theorem okG {x qual : Str} {st : Stmt} {f : Addr} {fd : FuncData} {N ps : List Str} {k : Nat} {sp : Sp}
    (F : Fun K x qual st f fd) (S : FnScope N ps (defScope st))
    (hlen : ∀ vs H Q E, sp vs H Q E → vs.length = ps.length)
    (body : ∀ (cdv : Value) (A : Around) (outer : List Env) (s : Shared) (H : Hp) (vs : List V) (Q : VK) (E : XK),
      A.guards = some [] → Room k (A.deeper (envOfC qual (defScope st) s.heap.objs.size f cdv)) → sp vs H Q E →
      ∃ t, PSs (cxOf CX0 P w K mg base N qual (defScope st) f cdv A outer s H E).nox (defBody st) t ∧
        t { nx := fun _ H' => Q .non H', rt := Q } (start N vs) H) :
    FnG P w K mg base (k + 1) f fd ps sp := by
  obtain ⟨oc, od, kV, doc, pm, an, cdv, ct, osl, rfl, lk, hcd⟩ := F.ex
  refine ⟨hlen, ?_⟩
  intro A outer s H args us vs Q E gd room e0 bnd rel want
  have inK : K.In s.heap := e0.mod.kin.keeps (fun b o q => (e0.bs b o q).left)
  have noLim : s.heap.NoLimit := e0.mod.nolimit.keeps (fun b o q => (e0.bs b o q).left)
  refine codeAny_call_function room.depth (inK _ _ lk) rfl S.co S.gen rfl
    (PySem.W.codeRec_of inK hcd) (bnd _ _ _ _ ?_)
  refine wpAny_newFunctionEnv_cells S.kind ?_ ?_
  · rintro ⟨n, v⟩ hy
    rcases S.par n (List.of_mem_zip hy).1 with loc | cel
    · exact Or.inl loc
    · exact Or.inr ⟨cel, PySem.W.cellsFrom_some _ _ _ (Or.inl cel)⟩
  · intro env he s1 x
    subst he
    refine ⟨noLim.keeps x.toInCall.keep, codeAny_func ?_⟩
    obtain ⟨t, ht0, hq⟩ := body cdv A outer s H vs Q E gd (room.deeper _) want
    have ht := ht0.nox
    have I := inv_start (CX := CX0) (N := N) (qual := qual) (f := f) (cd := cdv) (E := E) S room.hd e0 (hlen _ _ _ _ want) rel x
    refine wpAny_mono (ht.run [] s1 (start N vs) H _ I hq) ?_ (fun _ _ z => z)
    intro fl s' hs
    cases fl with
    | ret u =>
      obtain ⟨v, σ', H', J, rv, q⟩ := hs
      exact ⟨v, H', J.os, J.bare, J.base, J.hok, rv, q⟩
    | next =>
      obtain ⟨σ', H', J, q⟩ := hs
      exact ⟨V.non, H', J.os, J.bare, J.base, J.hok, rfl, q⟩
    | brk =>
      obtain ⟨_, _, _, q⟩ := hs
      exact q.elim
    | cont =>
      obtain ⟨_, _, _, q⟩ := hs
      exact q.elim
end

section
variable {X : Cx} {k : Nat} {f : Addr} {fd : FuncData} {ps : List Str} {sp : Sp} {E : XK} {x : Str} {p pos : Pos}
  {e : Expr} {es : List Expr} {t : TA}
/-- f(e, ..) of such a def -/
theorem pe_callG (F : FnG X.prog X.w X.K X.mg X.base k f fd ps sp) (gd : X.A.guards = some []) (hr : Room k X.A) (hg : Gl X x)
    (hm : X.mg x = some (.ref f)) (hk : PySem.W.keepIn X.K (.ref f) = true) (hb : Binds X.K fd ps []) (ha : PA X (e :: es) t)
    (hdb : (x == ("__debug__" : Str)) = false := by decide)
    (he : starEach (e :: es) X.env = (false, eval e X.env) :: starEach es X.env := by rfl)
    (hpl : (backTo pos (starEach es X.env)).any (·.1) = false := by rfl) :
    PE X (.Call (.Name x p) (e :: es) [] pos) (tCall sp [] E t) := by
  constructor
  intro pins s σ H Q I h
  refine wpAny_Call_Name_kw (ld_glob I hg hm ?_ hdb)
  refine PySem.W.callWith_K (h₀ := X.base) I.ok.mod.kin hk ?_ he hpl
  refine thn (ha.run pos pins s σ H _ I h) ?_
  rintro us s1 ⟨vs, H1, I1, r, q⟩
  refine ⟨I1.kIn, ?_⟩
  have q' : sp (vs ++ []) H1 Q E := q
  rw [List.append_nil] at q'
  have hl : us.length = ps.length := by
    rw [← r.length]
    exact F.len _ _ _ _ q'
  have hb' := hb s1 us I1.kIn (by simpa using hl)
  rw [List.append_nil] at hb'
  refine wpAny_call (codeAny_mono (F.run X.A X.stack s1 H1 ⟨us, []⟩ us vs Q E gd hr I1.env0 hb' r q') ?_)
  intro res s' hq
  cases res with
  | error e => exact False.elim hq
  | ok fl =>
    cases fl with
    | ret u => exact I1.after hq
    | next => exact False.elim hq
    | brk => exact False.elim hq
    | cont => exact False.elim hq
end
end MG

namespace MG
open PySem PySem.Spec PyProof.Rows L2

def SysD (h : Heap) : Prop := ∃ mm, h.Ns sysModules mm
theorem lawG {P : Program} {w : World} {K : PySem.W.Frag} {mg mb : Str → Option Value} {k : Nat} {fa a : Addr} {fd : FuncData} {x : Str}
    {sp : Sp} {s₁ : Shared} {vs : List Value} {ns : List Int}
    (KX : K.In s₁.heap) (hns : s₁.heap.Ns mainGlobals mg) (hb : s₁.heap.Ns builtinsNs mb)
    (hbb : ∀ x : Str, x ≠ "__name__" → mb x = bootBuiltins x) (hlim : s₁.heap.NoLimit) (hsys : SysD s₁.heap) (hg : s₁.gens = #[])
    (ha : s₁.heap.get? a = some { cls := .type "list", data := .seq vs.toArray }) (hi : IntsAre vs ns)
    (hl : ns.length ≤ sizeLine) (hr : Room k callerA)
    (F : ∀ base : Heap, K.In base → base.Ns mainGlobals mg → SysD base → FnG P w K mg base k fa fd [x] sp)
    (hbind : ∀ (s : Shared) (u : Value), BindsTo s fd ⟨[u], []⟩ [(x, u)])
    (hsp : ∀ H : Hp, Only H → SqL K H a (ns.map V.int) → sp [.ref a] H (fun v _ => v = .bl true) fun _ _ _ => False) :
    codeAny (model P w) callerA (.call (.ref fa) ⟨[.ref a], []⟩)
      (fun r s' => r = .ok (.ret (.bool true)) ∧ OldK s₁.heap s'.heap ∧ s'.os = s₁.os ∧ AllBare s'.gens) s₁ := by
  have rels := vals_ints hi
  have sizes := hi.length
  have go : ∀ H : Hp, Only H → SqL K H a (ns.map V.int) → HOk P w H s₁.heap → (∀ b, H b ≠ none → b = a) →
      (H a ≠ none → K.lookup a = none) →
      codeAny (model P w) callerA (.call (.ref fa) ⟨[.ref a], []⟩)
        (fun r s' => r = .ok (.ret (.bool true)) ∧ OldK s₁.heap s'.heap ∧ s'.os = s₁.os ∧ AllBare s'.gens) s₁ := by
    intro H only sq ok justA noK
    have dictFree : ∀ {b : Addr} {o : Obj} {es : Array DictEntry} {ep : Nat}, s₁.heap.get? b = some o → o.data = .dict es ep → H b = none := by
      intro b o es ep hget hdat
      cases hH : H b with
      | none => rfl
      | some u =>
        obtain rfl : b = a := justA b (by rw [hH]; exact fun z => nomatch z)
        rw [ha] at hget
        cases hget
        exact (nomatch (show Data.seq vs.toArray _ = Data.dict es ep from hdat))
    have nsHid : ∀ {b : Addr} {m : Str → Option Value}, s₁.heap.Ns b m → (hidT s₁.heap H).Ns b m := by
      rintro b m ⟨o, es, ep, h1, h2, h3⟩
      exact ⟨o, es, ep, hidT_get h1 (dictFree h1 h2), h2, h3⟩
    have kHid : K.In (hidT s₁.heap H) := by
      intro b o look
      refine hidT_get (KX b o look) ?_
      cases hH : H b with
      | none => rfl
      | some u =>
        obtain rfl : b = a := justA b (by rw [hH]; exact fun z => nomatch z)
        have z := noK (by rw [hH]; exact fun z => nomatch z)
        rw [z] at look
        cases look
    have modl : Mod K mg (hidT s₁.heap H) := by
      obtain ⟨mc, l1, l2⟩ := hlim
      exact ⟨kHid, nsHid hns, ⟨mb, nsHid hb, hbb⟩, ⟨mc, nsHid l1, l2⟩⟩
    have e0 : Env0 P w K mg (hidT s₁.heap H) callerA [] s₁ H :=
      { frames := rfl
        mod := modl
        bs := fun b o q => of_hidT q
        bsz := Nat.le_of_eq (hidT_size _ _)
        funs := trivial
        frf := fun b hb => absurd (show b ∈ ([] : List Addr) from hb) List.not_mem_nil
        hok := ok
        bare := .of_eq hg }
    refine codeAny_mono ((F _ kHid (nsHid hns) (let ⟨mm, q⟩ := hsys; ⟨mm, nsHid q⟩)).run callerA [] s₁ H ⟨[.ref a], []⟩ [.ref a] [.ref a] _ _ rfl hr e0
      (hbind s₁ (.ref a)) (.cons rfl .nil) (hsp H only sq)) ?_
    intro r s' h
    cases r with
    | error e => exact False.elim h
    | ok fl =>
      cases fl with
      | next => exact False.elim h
      | brk => exact False.elim h
      | cont => exact False.elim h
      | ret u =>
        obtain ⟨v, H', hos, hbare, un, ok', rel, q⟩ := h
        obtain rfl : v = .bl true := q
        obtain rfl : u = Value.bool true := rel
        refine ⟨rfl, OldK.of_keep ?_, hos, hbare⟩
        intro b o hget
        rcases only b with hn | ⟨ob, xs, hf⟩
        · exact un.keep b o hget hn (fun z => absurd (show b ∈ ([] : List Addr) from z) List.not_mem_nil) List.not_mem_nil
        · have q1 := (ok b _ hf).1
          have q2 := (ok' b _ (un.frzs b ob _ hf)).1
          rw [hget] at q1
          cases q1
          exact q2
  cases hk : K.lookup a with
  | none =>
    let ob : Obj := { cls := .type "list", data := .seq vs.toArray }
    let H : Hp := fun b => if b = a then some (.frz ob (.lst (ns.map V.int))) else none
    have atA : H a = some (.frz ob (.lst (ns.map V.int))) := if_pos rfl
    have off : ∀ b, b ≠ a → H b = none := fun b hb => if_neg hb
    refine go H ?_ (.inl (.inr ⟨ob, atA⟩)) ?_ ?_ (fun _ => hk)
    · intro b
      by_cases hb : b = a
      · subst hb; exact .inr ⟨_, _, atA⟩
      · exact .inl (off b hb)
    · intro b u z
      by_cases hb : b = a
      · subst hb
        rw [atA] at z
        cases z
        exact ⟨ha, by rw [List.length_map]; exact hl, vs, _, rels, ha⟩
      · rw [off b hb] at z
        cases z
    · intro b z
      by_cases hb : b = a
      · exact hb
      · exact absurd (off b hb) z
  | some o =>
    have e := KX a o hk
    rw [ha] at e
    cases e
    exact go (fun _ => none) (fun _ => .inl rfl)
      (.inr ⟨_, vs.toArray, _, hk, rfl, rfl, rfl, by rw [List.size_toArray, sizes]; exact hl, by simpa using rels⟩)
      (fun b u z => nomatch (show (none : Option HO) = some u from z)) (fun b z => absurd rfl z) (fun z => absurd rfl z)

theorem walkG {l : PySem.W.OpenLaw} {n k : Nat} {q : Program} {loose : List Str} {XP : (Str → Option Value) → Heap → Prop}
    {YP : World → Heap → Prop} {d : DefRec} {K : Params → PySem.W.Frag} {sp : PySem.W.Frag → Sp} {x : Str}
    (hn : l.most = some n) (hn2 : n ≤ sizeLine) (hdf : d.params.defaults = []) (hr : Room k callerA) (hq : importsNone q = true)
    (hY : ∀ (w : World) (h : Heap), YP w h → (K w.params).In h)
    (F : ∀ (w : World) (mg : Str → Option Value) (fa : Addr) (h : Heap), (K w.params).In h → h.Ns mainGlobals mg → mg d.name = some (.ref fa) →
      ∃ fd : FuncData, (∀ (s : Shared) (u : Value), BindsTo s fd ⟨[u], []⟩ [(x, u)]) ∧
        ∀ base : Heap, (K w.params).In base → base.Ns mainGlobals mg → SysD base → FnG l.prog w (K w.params) mg base k fa fd [x] (sp (K w.params)))
    (hsp : ∀ (K : PySem.W.Frag) (H : Hp) (a : Addr) (ns : List Int), ns.length ≤ n → Only H → SqL K H a (ns.map V.int) →
      sp K [.ref a] H (fun v _ => v = .bl true) fun _ _ _ => False) :
    PySem.W.WalkO q loose XP YP l.row.toRowW d [] (fun f vs => PySem.call f vs) := by
  refine Att.attach_call hn hdf ?_
  intro w s₀ s₁ mg mb fa o pm cd doc a vs ns G Y _ _ _ hmg hobj hints hlen hg
  have KX := hY w _ Y
  obtain ⟨fd, hbd, hF⟩ := F w mg fa _ KX G.T.g hmg
  exact lawG KX G.T.g G.T.b G.T.builtins G.T.nolimit (let ⟨mm, q, _⟩ := (G.T.seer hq).mods; ⟨mm, q⟩) hg hobj hints (Nat.le_trans hlen hn2) hr hF hbd
    (fun H hO hS => hsp _ H a ns hlen hO hS)
end MG

namespace MG
open PySem PySem.Spec PyProof.Rows L2

/-- behind enumerate(v): v's iterator, and who counts beside it -/
abbrev counts (g : Heap) (o : Obj) : Heap :=
  (g.push o).push { cls := .type "enumerate", data := .fields #[.none, .bool false, .ref g.objs.size, rawInt 0, .none, .none] }
theorem counts_new {v : Value} {o : Obj} {S : Heap → Prop} (B : Begins v o S) :
    PySem.Meets (Builtin.«enumerate.__new__» ⟨[.type "enumerate", v], []⟩) (fun _ R s =>
      S s.heap ∧ R (.ok (.ret (.ref (s.heap.push o).objs.size))) { s with heap := counts s.heap o }) := by
  refine .of_wp fun prog w A R s want => ?_
  obtain ⟨g, gens, drawn, tk, os⟩ := s
  have own := sub_enumerate
  have begun : ∀ {A' : Around} {Q E' : Value → Shared → Prop}, Q (.ref g.objs.size) ⟨g.push o, gens, drawn, tk, os⟩ →
      wpAny (model prog w) A' (pyIter v) Q E' ⟨g, gens, drawn, tk, os⟩ := fun q => B.iter _ _ _ _ _ _ want.1 q
  wp_walk using begun
  refine wpAny_stack_any fun top => wpAny_pure ?_
  split
  case h_1 c _ _ _ _ _ =>
    cases c == Value.type "enumerate" <;> (wp_walk using begun; exact ⟨_, rfl, want.2⟩)
  case h_2 =>
    wp_walk using begun
    exact ⟨_, rfl, want.2⟩
theorem counts_call {prog : Program} {w : World} {A : Around} {E : Value → Shared → Prop} {s : Shared} {v : Value} {o : Obj} {S : Heap → Prop}
    {Q : Value → Shared → Prop} (B : Begins v o S) (ready : S s.heap)
    (next : ∀ g, IsEnum g (s.heap.objs.size + 1) s.heap.objs.size 0 .none → g.get? s.heap.objs.size = some o →
      (∀ b u, s.heap.get? b = some u → g.get? b = some u) → Q (.ref (s.heap.objs.size + 1)) { s with heap := g }) :
    wpAny (model prog w) A (call (.type "enumerate") [v]) Q E s := by
  have up : (s.heap.push o).objs.size = s.heap.objs.size + 1 := Heap.size_push ..
  have first : (counts s.heap o).get? s.heap.objs.size = some o := Heap.get?_push_of_some _ (Heap.get?_push_size _ B.free)
  have second : (counts s.heap o).get? (s.heap.push o).objs.size = _ := Heap.get?_push_size _ rfl
  have rest : ∀ b u, s.heap.get? b = some u → (counts s.heap o).get? b = some u := fun _ _ at_ =>
    Heap.get?_push_of_some _ (Heap.get?_push_of_some _ at_)
  rw [up] at second
  refine callType_new F.called_enumerate (by decide) (F.typeCall_enumerate_1 v) (F.newCall_enumerate_1 v)
    (fun obj => F.args_object_init_2 obj v) F.entry_enumerate_new (counts_new B) ⟨ready, ?_⟩
  rw [up]
  exact ⟨⟨_, second, rfl⟩, next _ second first rest⟩
/-! ### walks that tell a new tuple each time -/
theorem not_tuple {g : Heap} {b c : Addr} {o : Obj} {items : Array Value} (t : IsTup g b items) (at_ : g.get? c = some o) (cls : o.cls ≠ .type "tuple") : b ≠ c := by
  obtain ⟨u, here, k, _⟩ := t
  intro e
  rw [e, at_] at here
  exact cls (by rw [Option.some.inj here]; exact k)
section told
variable {X : Cx} {pins : List (Addr × Obj)} {σ : L2.St} {H : Hp} {s : Shared} {ours : List Addr} {g : Heap} {tk : Nat}
/-- behind a walk's step: the tuple at T is new, our own objects are still nobody's -/
theorem told_new {T : Addr} {xs : List V} {us : List Value} (I : Inv X pins σ H s) (own : ∀ b ∈ ours, FpOk X pins H b)
    (live : ∀ b ∈ ours, ∃ o, s.heap.get? b = some o) (off : ∀ b o, b ∉ ours → s.heap.get? b = some o → g.get? b = some o)
    (new : s.heap.objs.size ≤ T) (made : IsTup g T us.toArray) (rel : Vals xs us) (few : xs.length ≤ sizeLine) :
    Inv X pins σ (upd H T (.tup xs)) { s with heap := g, toks := tk } ∧ H T = none ∧ ∀ b ∈ ours, upd H T (.tup xs) b = none :=
  ⟨I.turnedNew off own new ⟨few, us, rel, made⟩, I.hok.fresh new, fun b hb => by
    obtain ⟨o, at_⟩ := live b hb
    rw [upd_ne (Nat.ne_of_lt (Nat.lt_of_lt_of_le (Heap.lt_size at_) new))]
    exact (own b hb).1⟩
end told

/-! ### enumerate of a tuple -/
def IteT (K : PySem.W.Frag) (a : Addr) : It :=
  ⟨fun i H => ∃ (xs : List V) (x : V), SqT K H a xs ∧ xs[i]? = some x,
   fun i H v H' => ∃ T x, v = .ref T ∧ H T = none ∧ H' = upd H T (.tup [.int (i : Nat), x]) ∧ ∀ xs, SqT K H a xs → xs[i]? = some x,
   fun i H => ∃ xs : List V, SqT K H a xs ∧ xs.length = i⟩
/-- who counts at e, over the iterator at t of the tuple at a, i told -/
def EnT (a e t : Addr) (i : Nat) (g : Heap) : Prop := (∃ old, IsEnum g e t (i : Nat) old) ∧ g.IsTupleIter t a i ∧ e ≠ t
theorem EnT.live {a e t : Addr} {i : Nat} {g : Heap} (st : EnT a e t i g) : ∀ b ∈ [e, t], ∃ o, g.get? b = some o ∧ ∀ v, o.data ≠ .cell v := by
  obtain ⟨⟨old, he⟩, ⟨o, ho, _, dat⟩, _⟩ := st
  intro b hb
  cases hb with
  | head => exact ⟨_, he, fun v z => nomatch z⟩
  | tail _ hb =>
    obtain rfl := List.mem_singleton.mp hb
    exact ⟨o, ho, fun v z => nomatch (show Data.fields _ = Data.cell v from dat.symm.trans z)⟩
theorem turn_enumT {P : Program} {w : World} {K : PySem.W.Frag} {elts : List Expr} {kk : Nat} {tpos : Pos} (a e t : Addr) :
    Turn P w K (.Tuple elts kk tpos) (IteT K a) [e, t] e (EnT a e t) where
  mem := List.mem_cons_self
  obj := fun _ _ st => st.live
  keep := fun i g g' ⟨⟨old, he⟩, ht, ne⟩ k => ⟨⟨old, k e List.mem_cons_self _ he⟩, ht.at fun o => k t (List.mem_cons_of_mem _ List.mem_cons_self) o, ne⟩
  self := fun A i s Q E st q => by
    obtain ⟨⟨old, he⟩, _⟩ := st
    exact wpAny_pyIter_enum he q
  item := by
    intro X hP hw hK calm i pins s σ H E I own st go
    subst hP hw hK
    obtain ⟨xs, x, hq, hx⟩ := go
    obtain ⟨us, rel, tup, _⟩ := I.tuple hq
    obtain ⟨u, hu, ru⟩ := rel.get hx
    have live := st.live
    obtain ⟨⟨old, he⟩, ht, ne⟩ := st
    have at_ : a ≠ t := by
      obtain ⟨o, ho, cls, _⟩ := id ht
      exact not_tuple tup ho (by rw [cls]; decide)
    have ae : e ∉ [t, a] := by
      intro z
      cases z with
      | head => exact ne rfl
      | tail _ z => exact not_tuple tup he (by show Value.type "enumerate" ≠ .type "tuple"; decide) (List.mem_singleton.mp z).symm
    have walk := GoesN.enumFrom (elts := elts) (x1 := kk) (pos := tpos) 0
      (Draws.tuple (prog := X.prog) (w := X.w) (A := X.A.in1) (I.ok.hd calm) t a at_ us.toArray) e ne ae List.mem_cons_self
    refine walk.goes i s (fun v s2 => ∃ y H', Inv X pins σ H' s2 ∧ RelV y v ∧ (IteT X.K a).yld i H y H' ∧ EnT a e t (i + 1) s2.heap ∧ ∀ b ∈ [e, t], H' b = none) E
      ?_ ⟨⟨old, by rw [Int.zero_add]; exact he⟩, ht, tup⟩ ?_
    · rw [List.size_toArray]
      exact (List.getElem?_eq_some_iff.mp hu).1
    · rintro v g tk ⟨T, tok, y, rfl, new, hy, made⟩ ⟨⟨old2, he2⟩, ht2, _⟩ off _
      obtain rfl : y = u := Option.some.inj (by rw [← hu, ← hy, List.getElem?_toArray])
      rw [Int.zero_add] at made he2
      obtain ⟨J, free, none_⟩ := told_new (tk := tk) (xs := [.int (i : Nat), x]) (us := [.int i tok, y]) I own (fun b hb => let ⟨o, q, _⟩ := live b hb; ⟨o, q⟩) off new made
        (.cons ⟨tok, rfl⟩ (.cons ru .nil)) (by show 2 ≤ sizeLine; decide)
      exact ⟨.ref T, _, J, rfl, ⟨T, x, rfl, free, rfl, fun ys hy => by rw [I.tuple_inj hy hq]; exact hx⟩, ⟨⟨old2, he2⟩, ht2, ne⟩, none_⟩
  done := by
    intro X hP hw hK calm i pins s σ H E I own st go
    subst hP hw hK
    obtain ⟨xs, hq, rfl⟩ := go
    obtain ⟨us, rel, tup, _⟩ := I.tuple hq
    obtain ⟨⟨old, he⟩, ht, ne⟩ := st
    have at_ : a ≠ t := by
      obtain ⟨o, ho, cls, _⟩ := id ht
      exact not_tuple tup ho (by rw [cls]; decide)
    have ae : e ∉ [t, a] := by
      intro z
      cases z with
      | head => exact ne rfl
      | tail _ z => exact not_tuple tup he (by show Value.type "enumerate" ≠ .type "tuple"; decide) (List.mem_singleton.mp z).symm
    have walk := GoesN.enumFrom (elts := elts) (x1 := kk) (pos := tpos) 0
      (Draws.tuple (prog := X.prog) (w := X.w) (A := X.A.in1) (I.ok.hd calm) t a at_ us.toArray) e ne ae List.mem_cons_self
    have len : us.toArray.size = xs.length := by rw [List.size_toArray, rel.length]
    refine walk.stops s (fun s' => Inv X pins σ H s') E (by rw [len]; exact ⟨⟨old, by rw [Int.zero_add]; exact he⟩, ht, tup⟩) fun g tk off _ => I.turnedL (t' := tk) off own

def iEnumT (K : PySem.W.Frag) (ta : TA) : TI := fun σ H R => ta σ H fun vs H1 => ∃ a xs, vs = [.ref a] ∧ SqT K H1 a xs ∧ R (IteT K a) H1
theorem pi_enumT {X : Cx} {e : Expr} {ta : TA} {p pos tpos : Pos} {elts : List Expr} {kk : Nat} (hg : Gl X "enumerate")
    (hm : X.mg "enumerate" = none) (ha : PA X [e] ta) (hs : starEach [e] X.env = [(false, eval e X.env)] := by rfl) :
    PI X (.Tuple elts kk tpos) (.Call (.Name "enumerate" p) [e] [] pos) (iEnumT X.K ta) := by
  refine ⟨fun pins s σ H R I want => Call_ (ld_blt I hg hm boot_enumerate (PyProof.Rows.callWith_type1 (thn (ha.run pos pins s σ H _ I want) ?_) hs rfl))⟩
  rintro us s1 ⟨vs, H1, I1, rel, a, xs, rfl, hq, go⟩
  obtain rfl := rel.ref1
  obtain ⟨its, _, tup, _⟩ := I1.tuple hq
  refine counts_call (begins_tuple a its.toArray) tup fun g he ht up => wpAny_pyIter_enum he ?_
  have new : ∀ b ∈ [s1.heap.objs.size + 1, s1.heap.objs.size], s1.heap.objs.size ≤ b := by
    intro b hb
    simp only [List.mem_cons, List.not_mem_nil, or_false] at hb
    omega
  exact ⟨_, _, _, _, H1, rfl, I1.kept (t' := s1.toks) up, turn_enumT a (s1.heap.objs.size + 1) s1.heap.objs.size,
    ⟨⟨_, he⟩, ⟨_, ht, rfl, rfl⟩, Nat.succ_ne_self _⟩, fun b hb => I1.fpOk (new b hb) (I1.hok.fresh (new b hb)), go⟩
theorem walk_enumT {K : PySem.W.Frag} {a : Addr} {xs : List V} :
    Walk (IteT K a) xs.length (fun H => SqT K H a xs) (YPair (fun i => some (.int (i : Nat))) (fun i => xs[i]?)) := by
  refine ⟨fun i H lt q => ⟨xs, xs[i], q, List.getElem?_eq_getElem lt⟩, fun H q => ⟨xs, q, rfl⟩, ?_⟩
  rintro i H v H' _ q ⟨T, x, e, free, next, is⟩
  exact ⟨T, .int (i : Nat), x, e, free, next, rfl, is xs q⟩

/-! ### sum of a tuple of whole numbers -/
theorem sumT {X : Cx} (hc : X.calm = true) : CallR X (.builtin "sum") (fun vs H Q => ∃ (a : Addr) (ns : List Int),
    vs = [V.ref a] ∧ SqT X.K H a (ns.map V.int) ∧ Q (.int ns.sum) H) := by
  rintro pins s σ H xs us Q I r ⟨a, ns, rfl, hq, q⟩
  obtain rfl := r.ref1
  obtain ⟨its, rv, p, hz⟩ := I.tuple hq
  have hi : IntsAre its ns := rv.ints
  obtain ⟨ys, hy⟩ := hi.allInts.items
  have hn : numsOf its.toArray.toList = ns := by
    rw [show its.toArray.toList = its from rfl, hi.numsOf]
  have p' : s.heap.IsTuple a its.toArray := p
  rw [hy] at p' hn
  rw [nums_intItems] at hn
  refine PySem.W.ktm_sumG (I.ok.hd hc) p' ?_
  intro h' tk t' hk
  have e : preSum (numAt ys) ys.size = ns.sum := by
    rw [preSum_eq, List.take_of_length_le (by simp), hn]
  rw [e]
  exact ⟨.int ns.sum, H, I.kept hk, ⟨t', rfl⟩, q⟩

/-! ### a text so many times -/
def repText (z : Str) (n : Nat) : Str := ⟨(List.replicate n z.cps).foldl (· ++ ·) #[]⟩
theorem repS {X : Cx} : OpR X (binaryOp .Mult) (fun x y H Q => ∃ (z : Str) (n : Int), x = .str z ∧ y = .int n ∧ 2 ≤ n ∧ n ≤ 1000 ∧
    z.length = 1 ∧ (repText z n.toNat).length ≤ sizeLine ∧ Q (.str (repText z n.toNat)) H) := by
  rintro pins s σ H x y v u Q I rx ry ⟨z, n, rfl, rfl, h1, h2, hz, hs, q⟩
  obtain ⟨t, rfl⟩ := rx
  obtain ⟨t2, rfl⟩ := ry
  have c1 : ¬ n < 1 := by omega
  have c2 : (n == 1 || z.length == 0) = false := by
    rw [hz, show (n == 1) = false from beq_eq_false_iff_ne.mpr (by omega)]
    rfl
  refine PySem.P.mul_str ?_ ?_ ?_ ?_
  · rw [decide_eq_false (show ¬ n < -(2 ^ 63 : Int) by omega), decide_eq_false (show ¬ n ≥ 2 ^ 63 by omega)]
    rfl
  · intro _ _
    rw [hz]
    have : (1 : Int) ≤ (2 ^ 63 - 1) / n := by
      refine (Int.le_ediv_iff_mul_le (by omega)).mpr ?_
      omega
    omega
  · intro _ _
    show decide (z.length * n.toNat > sizeLine) = false
    rw [hz]
    refine decide_eq_false ?_
    rw [sizeLine_eq]
    omega
  · rw [if_neg c1, if_neg (by rw [c2]; exact Bool.false_ne_true)]
    exact ⟨hs, .str _, H, I.tok _, ⟨_, rfl⟩, q⟩

/-! ### a tuple so many times, once and never, too -/
theorem mulT_same (l : Addr) (items : Array Value) (n : Nat) (dd : Option Addr) (sl : Array (Option Value)) (x : Int) (u : Tok)
    (c1 : (items.isEmpty || x == 1) = true) (c0 : (decide (x < -(2 ^ 63)) || decide (x ≥ 2 ^ 63)) = false) :
    Meets (Builtin.«tuple.__mul__» ⟨[.ref l, .int x u], []⟩) (fun _ R s => s.heap.get? l = some { cls := .type "tuple", dict := dd, data := .seq items n, slots := sl } ∧
      R (.ok (.ret (Value.ref l))) s) :=
  .of_wp fun prog w A R s h => by
    obtain ⟨hp, g, d, tk, os⟩ := s
    obtain ⟨hl, h⟩ := h
    have f1 := AutoSeq1.idx_int
    wp_walk using AutoSeq1.wpAny_loadPart' hl
    repeat (first
      | (refine wpAny_ite_false (decide_eq_false (by rw [c0]; exact Bool.false_ne_true)) ?_; wp_walk using AutoSeq1.wpAny_loadPart' hl)
      | (refine wpAny_ite_true (decide_eq_true (by rw [c1])) ?_; wp_walk using AutoSeq1.wpAny_loadPart' hl))
    exact ⟨_, rfl, h⟩
end MG

namespace MG
open PySem PySem.Spec PyProof.Rows L2

theorem mulT_none (l : Addr) (items : Array Value) (n : Nat) (dd : Option Addr) (sl : Array (Option Value)) (u : Tok)
    (c1 : items.isEmpty = false) :
    Meets (Builtin.«tuple.__mul__» ⟨[.ref l, .int 0 u], []⟩) (fun _ R s =>
      s.heap.get? l = some { cls := .type "tuple", dict := dd, data := .seq items n, slots := sl } ∧
      R (.ok (.ret (Value.ref s.heap.objs.size))) { s with heap := s.heap.push { cls := Value.type "tuple", data := Data.seq #[] }, toks := s.toks }) :=
  .of_wp fun prog w A R s h => by
    obtain ⟨hp, g, d, tk, os⟩ := s
    obtain ⟨hl, h⟩ := h
    have f1 := AutoSeq1.idx_int
    have c2 : (items.isEmpty || (0 : Int) == 1) = false := by rw [c1]; rfl
    have c3 : (decide ((0 : Int) ≤ 0) || items.isEmpty) = true := rfl
    wp_walk using AutoSeq1.wpAny_loadPart' hl
    repeat (first
      | (refine wpAny_ite_false (decide_eq_false (by rw [c2]; exact Bool.false_ne_true)) ?_; wp_walk using AutoSeq1.wpAny_loadPart' hl)
      | (refine wpAny_ite_true (decide_eq_true (by rw [c3])) ?_; wp_walk using AutoSeq1.wpAny_loadPart' hl))
    exact ⟨_, rfl, h⟩

def rRepA (K : PySem.W.Frag) : R2 := fun x y H Q => ∃ l k xs, x = .ref l ∧ y = .int k ∧ SqT K H l xs ∧ xs ≠ [] ∧ 0 ≤ k ∧ k ≤ 1000 ∧
  xs.length ≤ 1000 ∧ (k = 1 → Q (.ref l) H) ∧ (k ≠ 1 → ∀ p, H p = none → Q (.ref p) (upd H p (.tup (List.replicate k.toNat xs).flatten)))
theorem op_repA {X : Cx} : OpR X (binaryOp .Mult) (rRepA X.K) := by
  rintro pins s σ H x y v u Q I rx ry ⟨l, k, xs, rfl, rfl, hT, hne, h1, h2, hz, q1, q2⟩
  by_cases hk : 2 ≤ k
  · exact op_repT pins s σ H _ _ v u Q I rx ry ⟨l, k, xs, rfl, rfl, hT, hne, hk, h2, hz, q2 (by omega)⟩
  · cases rx
    obtain ⟨t, rfl⟩ := ry
    obtain ⟨its, r, ⟨⟨cls, dd, data, sl⟩, ho, hc, n, hd⟩, hs⟩ := I.tuple hT
    simp only at hc hd
    subst hc hd
    have hi : its.toArray.isEmpty = false := by
      cases its with
      | nil =>
        have := r.length
        exact absurd (List.eq_nil_of_length_eq_zero this) hne
      | cons a b => rfl
    have ty : ∀ s' : Shared, s'.TypeIs (.int k t) "int" := fun s' => typeIs_int s' k t
    by_cases hk1 : k = 1
    · refine wpAny_binaryOp_repeat_ref (T := "tuple") (U := "int") (by decide) ⟨_, ho, rfl⟩ ty noFill_tuple_mul F.fills_int_mul
        F.slot_int_rmul repeat_tuple F.slot_int_index.lookup ?_
      refine call_meets F.slot_int_rmul (typeIs_int s k t) F.entry_int_rmul (F.args_int_rmul_2 _ _)
        (int_rmul_tuple k t l its.toArray n dd sl) ⟨ho, rfl, ⟨_, ho, rfl⟩, ?_⟩
      refine call_meets F.slot_tuple_mul ⟨_, ho, rfl⟩ F.entry_tuple_mul (F.args_tuple_mul_2 _ _)
        (mulT_same l its.toArray n dd sl k t (by rw [hk1, hi]; rfl) ?_) ⟨ho, ?_⟩
      · rw [decide_eq_false (show ¬ k < -(2 ^ 63 : Int) by omega), decide_eq_false (show ¬ k ≥ 2 ^ 63 by omega)]
        rfl
      · exact ⟨.ref l, H, I, rfl, q1 hk1⟩
    · have hk0 : k = 0 := by omega
      subst hk0
      refine wpAny_binaryOp_repeat_ref (T := "tuple") (U := "int") (by decide) ⟨_, ho, rfl⟩ ty noFill_tuple_mul F.fills_int_mul
        F.slot_int_rmul repeat_tuple F.slot_int_index.lookup ?_
      refine call_meets F.slot_int_rmul (typeIs_int s 0 t) F.entry_int_rmul (F.args_int_rmul_2 _ _)
        (int_rmul_tuple 0 t l its.toArray n dd sl) ⟨ho, rfl, ⟨_, ho, rfl⟩, ?_⟩
      refine call_meets F.slot_tuple_mul ⟨_, ho, rfl⟩ F.entry_tuple_mul (F.args_tuple_mul_2 _ _)
        (mulT_none l its.toArray n dd sl t hi) ⟨ho, ?_⟩
      refine ⟨.ref s.heap.objs.size, _, I.laid (t' := s.toks) (o := .tup []) (fun b ob q => Heap.get?_push_of_some _ q)
        (Nat.le_refl _) ?_, rfl, q2 hk1 _ (I.hok.fresh (Nat.le_refl _))⟩
      exact ⟨Nat.zero_le _, [], .nil, IsTup.new _ _⟩

/-! ### data: None, truths, whole numbers, texts, lists, tuples, dicts with text keys -/
def kD : Key → PyData
  | .inl i => .int i
  | .inr x => .str x
mutual
inductive Dd (H : Hp) : V → PyData → Prop
  | non : Dd H .non .none
  | bl (b : Bool) : Dd H (.bl b) (.bool b)
  | int (i : Int) : Dd H (.int i) (.int i)
  | str (x : Str) : Dd H (.str x) (.str x)
  | lst {a : Addr} {xs : List V} {ds : List PyData} : H a = some (.lst xs) → DdAll H xs ds → Dd H (.ref a) (.list ds)
  | tup {a : Addr} {xs : List V} {ds : List PyData} : H a = some (.tup xs) → DdAll H xs ds → Dd H (.ref a) (.tuple ds)
  | dic {a : Addr} {kvs : List (Key × V)} {ds : List PyData} : H a = some (.dK kvs) → DdAll H (kvs.map (·.2)) ds →
      Dd H (.ref a) (.dict ((kvs.map fun p => kD p.1).zip ds))
inductive DdAll (H : Hp) : List V → List PyData → Prop
  | nil : DdAll H [] []
  | cons {v : V} {vs : List V} {d : PyData} {ds : List PyData} : Dd H v d → DdAll H vs ds → DdAll H (v :: vs) (d :: ds)
end
theorem DdAll.length {H : Hp} : ∀ {vs : List V} {ds : List PyData}, DdAll H vs ds → ds.length = vs.length
  | [], _, h => by cases h; rfl
  | v :: vs, _, h => by
    cases h with
    | cons _ t => rw [List.length_cons, List.length_cons, t.length]

mutual
theorem Dd.same {H H' : Hp} (s : Same H H') : ∀ {v : V} {d : PyData}, Dd H v d → Dd H' v d
  | _, _, .non => .non
  | _, _, .bl b => .bl b
  | _, _, .int i => .int i
  | _, _, .str x => .str x
  | _, _, .lst e r => .lst (s _ _ e) (DdAll.same s r)
  | _, _, .tup e r => .tup (s _ _ e) (DdAll.same s r)
  | _, _, .dic e r => .dic (s _ _ e) (DdAll.same s r)
theorem DdAll.same {H H' : Hp} (s : Same H H') : ∀ {vs : List V} {ds : List PyData}, DdAll H vs ds → DdAll H' vs ds
  | _, _, .nil => .nil
  | _, _, .cons a b => .cons (Dd.same s a) (DdAll.same s b)
end

section
variable {X : Cx} {pins : List (Addr × Obj)} {σ : L2.St} {H : Hp} {s : Shared}
theorem key_read {P : Program} {w : World} {h : Heap} {k : Key} {v : Value} (e : (mixKind P w).is k v = true) : Reads h v (kD k) [] := by
  rcases keyIs_shape (show keyIs k v = true from e) with ⟨i, t, rfl, rfl⟩ | ⟨x, t, rfl, rfl⟩
  · exact .int i t
  · exact .str x t
theorem pairs_read {P : Program} {w : World} {h : Heap} : ∀ {es : List DictEntry} {vs : List (Key × Value)} {kvs : List (Key × V)},
    Pairs (mixKind P w) es vs → KV kvs vs →
    ReadsAll h (es.map (·.key)) (kvs.map fun p => kD p.1) [] ∧ es.map (·.val) = vs.map (·.2) ∧ Vals (kvs.map (·.2)) (vs.map (·.2))
  | _, _, _, .nil, .nil => ⟨.nil, rfl, .nil⟩
  | _, _, _, .cons h1 h2 t, .cons r rt => by
    obtain ⟨a, b, c⟩ := pairs_read (h := h) t rt
    refine ⟨?_, ?_, .cons r.2 c⟩
    · rw [← r.1] at h1
      exact ReadsAll.cons (key_read h1) a
    · rw [List.map_cons, List.map_cons, b, h2]
theorem zip_fst {α β : Type} {xs : List α} {ys : List β} (h : xs.length = ys.length) : (xs.zip ys).map (·.1) = xs := by
  rw [show (fun x : α × β => x.1) = Prod.fst from rfl]
  exact List.map_fst_zip (Nat.le_of_eq h)
theorem zip_snd {α β : Type} {xs : List α} {ys : List β} (h : xs.length = ys.length) : (xs.zip ys).map (·.2) = ys := by
  rw [show (fun x : α × β => x.2) = Prod.snd from rfl]
  exact List.map_snd_zip (Nat.le_of_eq h.symm)
theorem not_sys {a : Addr} {o : Obj} {vs : Array Value} {n : Nat} (sys : SysD X.base) (I : L2.Inv X pins σ H s) (h : s.heap.get? a = some o) (hc : o.data = .seq vs n) : sysModules ≠ a := by
  rintro rfl
  obtain ⟨mm, u, es, ep, hu, du, _⟩ := sys
  have := I.bk _ _ hu
  rw [h] at this
  cases this
  rw [hc] at du
  cases du
mutual
theorem Dd.reads (sys : SysD X.base) (I : Inv X pins σ H s) : ∀ {v : V} {d : PyData}, Dd H v d → ∀ {u : Value}, RelV v u → ∃ as, Reads s.heap u d as ∧ sysModules ∉ as
  | _, _, .non, _, r => by cases r; exact ⟨_, .none, List.not_mem_nil⟩
  | _, _, .bl b, _, r => by cases r; exact ⟨_, .bool b, List.not_mem_nil⟩
  | _, _, .int i, _, r => by obtain ⟨t, rfl⟩ := r; exact ⟨_, .int i t, List.not_mem_nil⟩
  | _, _, .str x, _, r => by obtain ⟨t, rfl⟩ := r; exact ⟨_, .str x t, List.not_mem_nil⟩
  | _, _, .lst e h, _, r => by
    cases r
    obtain ⟨_, its, n, rv, ho⟩ := I.hok _ _ e
    obtain ⟨as, q, ns⟩ := DdAll.reads sys I h rv
    refine ⟨_, Reads.list ho rfl rfl q, ?_⟩
    intro z
    rcases List.mem_cons.mp z with z | z
    · exact not_sys sys I ho rfl z
    · exact ns z
  | _, _, .tup e h, _, r => by
    cases r
    obtain ⟨_, its, rv, o, ho, hc, n, hd⟩ := I.hok _ _ e
    obtain ⟨as, q, ns⟩ := DdAll.reads sys I h rv
    exact ⟨_, Reads.tuple ho hc hd q, ns⟩
  | _, _, .dic (kvs := kvs) (ds := ds) e h, _, r => by
    cases r
    obtain ⟨_, hne, vs, kv, o, es, ep, ho, hx, hd, _, hp, _⟩ := I.hok _ _ e
    obtain ⟨rk, hv, rvs⟩ := pairs_read (h := s.heap) hp kv
    obtain ⟨bs, q, ns⟩ := DdAll.reads sys I h rvs
    have hl : (kvs.map fun p => kD p.1).length = ds.length := by
      rw [h.length, List.length_map, List.length_map]
    refine ⟨_, Reads.dict (as := []) (bs := bs) ho hx.1 hd ?_ ?_, ?_⟩
    · rw [zip_fst hl]; exact rk
    · rw [zip_snd hl, hv]; exact q
    · intro z
      rcases List.mem_cons.mp (show sysModules ∈ _ :: bs from z) with z | z
      · rw [z] at hne
        simp at hne
      · exact ns z
theorem DdAll.reads (sys : SysD X.base) (I : Inv X pins σ H s) : ∀ {vs : List V} {ds : List PyData}, DdAll H vs ds → ∀ {us : List Value}, Vals vs us → ∃ as, ReadsAll s.heap us ds as ∧ sysModules ∉ as
  | _, _, .nil, _, r => by cases r; exact ⟨_, .nil, List.not_mem_nil⟩
  | _, _, .cons a b, _, r => by
    cases r with
    | cons r1 r2 =>
      obtain ⟨as, q1, n1⟩ := Dd.reads sys I a r1
      obtain ⟨bs, q2, n2⟩ := DdAll.reads sys I b r2
      refine ⟨_, .cons q1 q2, ?_⟩
      intro z
      rcases List.mem_append.mp z with z | z
      · exact n1 z
      · exact n2 z
end
/-- repr(x) -/
theorem call_repr (gd : X.A.guards = some []) (hu : X.A.units + 100 < cLine) (sys : SysD X.base) :
    CallR X (.builtin "repr") (fun xs H Q => ∃ x d, xs = [x] ∧ Dd H x d ∧ d.showable = true ∧ d.depth ≤ 60 ∧ d.shown.length ≤ sizeLine ∧ Q (.str d.shown) H) := by
  rintro pins s σ H xs us Q I r ⟨x, d, rfl, hd, hs, hdep, hz, q⟩
  obtain ⟨u, rfl, r1⟩ := vals1 r
  have fin : ∀ h' v tk, (∀ b o, s.heap.get? b = some o → h'.get? b = some o) →
      EP X pins σ Q (.str d.shown v) { s with heap := h', toks := tk } := fun h' v tk hk => ⟨.str d.shown, H, I.kept hk, ⟨v, rfl⟩, q⟩
  obtain ⟨as, rd, ns⟩ := Dd.reads sys I hd r1
  cases rd with
  | none => exact PySem.P.repr_of_none (fin s.heap s.toks (s.toks + 1) fun _ _ e => e)
  | bool b => exact PySem.P.repr_of_bool (fin s.heap s.toks (s.toks + 1) fun _ _ e => e)
  | int i t => exact PySem.P.repr_of_int (of_decide_eq_true hs) (fin s.heap s.toks (s.toks + 1) fun _ _ e => e)
  | str z t => exact PySem.P.repr_of_str (fin s.heap s.toks (s.toks + 1) fun _ _ e => e) hz
  | list h1 h2 h3 h4 => exact repr_of_reads' (.list h1 h2 h3 h4) hs (fun _ => ns) gd (by omega) (fun _ _ e => e) fin hz
  | tuple h1 h2 h3 h4 => exact repr_of_reads' (.tuple h1 h2 h3 h4) hs (fun _ => ns) gd (by omega) (fun _ _ e => e) fin hz
  | dict h1 h2 h3 h4 h5 => exact repr_of_reads' (.dict h1 h2 h3 h4 h5) hs (fun _ => ns) gd (by omega) (fun _ _ e => e) fin hz
end
end MG

namespace MG
open PySem PySem.Spec PyProof.Rows L2

/-- v is data in H: at most n deep, its repr at most c signs -/
def Da (H : Hp) (n c : Nat) (v : V) : Prop := ∃ d, Dd H v d ∧ d.showable = true ∧ d.depth ≤ n ∧ d.shown.length ≤ c
theorem Da.same {H H' : Hp} {n c : Nat} {v : V} (s : Same H H') (h : Da H n c v) : Da H' n c v := by
  obtain ⟨d, a, b⟩ := h
  exact ⟨d, a.same s, b⟩
theorem Da.le {H : Hp} {n c n' c' : Nat} {v : V} (h : Da H n c v) (hn : n ≤ n') (hc : c ≤ c') : Da H n' c' v := by
  obtain ⟨d, a, b, e, f⟩ := h
  exact ⟨d, a, b, Nat.le_trans e hn, Nat.le_trans f hc⟩
theorem Da.non {H : Hp} : Da H 0 4 .non := ⟨.none, .non, rfl, Nat.le_refl _, by decide +kernel⟩
theorem Da.bl {H : Hp} (b : Bool) : Da H 0 5 (.bl b) := ⟨.bool b, .bl b, rfl, Nat.le_refl _, by cases b <;> decide +kernel⟩
theorem int_len {i : Int} {k : Nat} (hk : 0 < k) (h : i.natAbs < 2 ^ k) : (Str.ofString (toString i)).length ≤ k + 1 := by
  rw [PySem.ofString_length]
  refine int_text_length_le hk ?_
  by_cases h0 : i.natAbs = 0
  · rw [h0]; exact Nat.lt_of_le_of_lt (by decide) hk
  · exact (Nat.log2_lt h0).mpr h
theorem Da.int {H : Hp} {i : Int} (h : i.natAbs < 2 ^ 300) : Da H 0 301 (.int i) := by
  refine ⟨.int i, .int i, ?_, Nat.le_refl _, int_len (by decide) h⟩
  show decide (i.natAbs.log2 < 1920) = true
  refine decide_eq_true ?_
  by_cases h0 : i.natAbs = 0
  · rw [h0]; decide
  · exact Nat.lt_of_lt_of_le ((Nat.log2_lt h0).mpr h) (by decide)
theorem Da.str {H : Hp} (x : Str) {c : Nat} (h : (reprText x).length ≤ c) : Da H 0 c (.str x) := ⟨.str x, .str x, rfl, Nat.le_refl _, h⟩

theorem das {H : Hp} {n c : Nat} : ∀ {xs : List V}, (∀ x ∈ xs, Da H n c x) →
    ∃ ds, DdAll H xs ds ∧ PyData.showableAll ds = true ∧ PyData.depthAll ds ≤ n ∧ piled (PyData.shownAll ds) ≤ xs.length * (c + 2)
  | [], _ => ⟨[], .nil, rfl, Nat.zero_le _, by rw [PyData.shownAll, piled_nil]; exact Nat.zero_le _⟩
  | x :: xs, h => by
    obtain ⟨d, a, b, e, f⟩ := h x List.mem_cons_self
    obtain ⟨ds, a2, b2, e2, f2⟩ := das (xs := xs) fun y hy => h y (List.mem_cons_of_mem _ hy)
    refine ⟨d :: ds, .cons a a2, ?_, ?_, ?_⟩
    · rw [PyData.showableAll, b, b2]; rfl
    · rw [PyData.depthAll]; exact Nat.max_le.mpr ⟨e, e2⟩
    · rw [PyData.shownAll, piled_cons, List.length_cons, Nat.add_mul, Nat.one_mul]
      omega
theorem tupleText_le (ts : List Str) : (tupleText ts).length ≤ piled ts + 3 := by
  unfold tupleText
  rw [strLen_append, strLen_append]
  have h1 : ("(" : Str).length = 1 := rfl
  have h2 : (Str.ofString (if (ts.length == 1) = true then ",)" else ")")).length ≤ 2 := by
    cases ts.length == 1 <;> decide +kernel
  have h3 : (Str.join ", " ts).length ≤ piled ts := by
    cases ts with
    | nil => decide +kernel
    | cons t r =>
      have := join_length_add (t :: r) (List.cons_ne_nil _ _)
      omega
  have h4 : ((if (ts.length == 1) = true then ",)" else ")" : String) : Str).length ≤ 2 := h2
  omega
theorem dictText_le (ts : List Str) : (dictText ts).length ≤ piled ts + 3 := by
  unfold dictText
  rw [strLen_append, strLen_append]
  have h1 : ("{" : Str).length = 1 := rfl
  have h2 : ("}" : Str).length = 1 := rfl
  have h3 : (Str.join ", " ts).length ≤ piled ts := by
    cases ts with
    | nil => decide +kernel
    | cons t r =>
      have := join_length_add (t :: r) (List.cons_ne_nil _ _)
      omega
  omega
theorem listText_le (ts : List Str) : (listText ts).length ≤ piled ts + 3 := by
  unfold listText
  rw [strLen_append]
  have h2 : ("]" : Str).length = 1 := rfl
  cases ts with
  | nil => decide +kernel
  | cons t r =>
    have e : (textFrom 0 "[" (t :: r)) = textFrom 1 (("[" : Str) ++ (if (0 : Nat) > 0 then ", " else "" : String) ++ t) r := rfl
    rw [e, textFrom_length_pos _ _ _ Nat.one_pos, strLen_append, strLen_append, piled_cons]
    have h1 : ("[" : Str).length = 1 := rfl
    have h3 : ((if (0 : Nat) > 0 then ", " else "" : String) : Str).length = 0 := by decide +kernel
    omega
theorem Da.tup {H : Hp} {n c m : Nat} {a : Addr} {xs : List V} (e : H a = some (.tup xs)) (h : ∀ x ∈ xs, Da H n c x) (hm : xs.length ≤ m) :
    Da H (n + 1) (m * (c + 2) + 3) (.ref a) := by
  obtain ⟨ds, a1, b1, e1, f1⟩ := das h
  refine ⟨.tuple ds, .tup e a1, b1, Nat.succ_le_succ e1, ?_⟩
  have h1 := tupleText_le (PyData.shownAll ds)
  have h2 : xs.length * (c + 2) ≤ m * (c + 2) := Nat.mul_le_mul_right _ hm
  show (tupleText (PyData.shownAll ds)).length ≤ _
  omega
theorem Da.lst {H : Hp} {n c m : Nat} {a : Addr} {xs : List V} (e : H a = some (.lst xs)) (h : ∀ x ∈ xs, Da H n c x) (hm : xs.length ≤ m) :
    Da H (n + 1) (m * (c + 2) + 3) (.ref a) := by
  obtain ⟨ds, a1, b1, e1, f1⟩ := das h
  refine ⟨.list ds, .lst e a1, b1, Nat.succ_le_succ e1, ?_⟩
  have h1 := listText_le (PyData.shownAll ds)
  have h2 : xs.length * (c + 2) ≤ m * (c + 2) := Nat.mul_le_mul_right _ hm
  show (listText (PyData.shownAll ds)).length ≤ _
  omega
theorem Da.dic0 {H : Hp} {a : Addr} (e : H a = some (.dK [])) : Da H 1 3 (.ref a) :=
  ⟨.dict [], .dic e .nil, rfl, by decide, by decide +kernel⟩
theorem Da.dic1 {H : Hp} {n c : Nat} {a : Addr} {k : Str} {v : V} (e : H a = some (.dK [(.inr k, v)])) (h : Da H n c v) (hk : (reprText k).length ≤ 5) :
    Da H (n + 1) (c + 12) (.ref a) := by
  obtain ⟨d, a1, b1, e1, f1⟩ := h
  refine ⟨.dict [(.str k, d)], .dic e (.cons a1 .nil), ?_, ?_, ?_⟩
  · show (true && d.showable && true) = true
    rw [b1]; rfl
  · show max (max 0 d.depth) 0 + 1 ≤ n + 1
    omega
  · have h1 := dictText_le (PyData.shownKv [(.str k, d)])
    have h2 : PyData.shownKv [(.str k, d)] = [reprText k ++ ": " ++ d.shown] := rfl
    rw [h2] at h1
    show (dictText (PyData.shownKv [(.str k, d)])).length ≤ _
    rw [h2]
    have h3 : (reprText k ++ ": " ++ d.shown).length = (reprText k).length + 2 + d.shown.length := by
      rw [strLen_append, strLen_append]; rfl
    rw [piled_cons, piled_nil, h3] at h1
    omega
end MG

namespace MG
open PySem PySem.Spec PyProof.Rows L2

/-! ### f(a=.., b=..): every parameter by its name, in the def's order -/
def KB (K : PySem.W.Frag) (fd : FuncData) (ps : List Str) : Prop :=
  ∀ (s : Shared) (us : List Value), K.In s.heap → us.length = ps.length → BindsTo s fd ⟨[], ps.zip us⟩ (ps.zip us)
theorem kb_of {K : PySem.W.Frag} {x qual : Str} {st : Stmt} {f : Addr} {fd : FuncData} {ps : List Str} (F : Fun K x qual st f fd)
    (h : ∀ (kV doc pm : Value) (an : Option Addr) (cdv ct : Value) (us : List Value), us.length = ps.length →
      bindArgs (PySem.W.fnOf x qual (defArgs st) (defBody st) (defScope st) .none kV doc pm an cdv ct) ⟨[], ps.zip us⟩ = pure (ps.zip us)) : KB K fd ps := by
  obtain ⟨oc, od, kV, doc, pm, an, cdv, ct, osl, rfl, lk, hcd⟩ := F.ex
  exact fun s us _ hl => .of_eq (h kV doc pm an cdv ct us hl)
def tCallN (sp : Sp) (E : XK) (tk : TA) : TE := fun σ H Q => tk σ H fun zs H2 => sp zs H2 Q E
theorem pe_callN {X : Cx} {k : Nat} {f : Addr} {fd : FuncData} {ps : List Str} {sp : Sp} {E : XK} {x : Str} {p pos : Pos} {kws : List Keyword} {tk : TA}
    (F : FnOk X.prog X.w X.K X.mg X.base CX0 k f fd ps sp) (hr : Room k X.A) (hg : Gl X x)
    (hm : X.mg x = some (.ref f)) (hk : PySem.W.keepIn X.K (.ref f) = true) (hb : KB X.K fd ps) (hkw : PK X kws tk)
    (hall : (backToKw pos (keywordEach kws X.env)).all (·.1.isSome) = true := by rfl)
    (hks : (backToKw pos (keywordEach kws X.env)).filterMap (·.1) = ps := by rfl)
    (hdb : (x == ("__debug__" : Str)) = false := by decide)
    (hpl : ((backTo pos (starEach [] X.env)).any (·.1) || (backToKw pos (keywordEach kws X.env)).any (·.1.isNone)) = false := by rfl) :
    PE X (.Call (.Name x p) [] kws pos) (tCallN sp E tk) := by
  constructor
  intro pins s σ H Q I h
  refine wpAny_Call_Name_kw (ld_glob I hg hm ?_ hdb)
  refine PySem.W.callWith_KW0 (h₀ := X.base) I.ok.mod.kin hk hall (thn (hkw.run pos pins s σ H _ I h) ?_) hpl
  rintro us s1 ⟨vs, H1, I1, r, q⟩
  refine ⟨I1.kIn, ?_⟩
  rw [hks]
  have hl : us.length = ps.length := by
    rw [← r.length]
    exact F.len _ _ _ _ q
  refine wpAny_call (codeAny_mono (F.run X.A X.stack s1 H1 ⟨[], ps.zip us⟩ us vs Q E hr I1.env0 (hb s1 us I1.kIn hl) r q) ?_)
  intro res s' hq
  cases res with
  | error e => exact False.elim hq
  | ok fl =>
    cases fl with
    | ret u => exact I1.after hq
    | next => exact False.elim hq
    | brk => exact False.elim hq
    | cont => exact False.elim hq

/-! ### isinstance of data -/
def tyN : PyData → String
  | .none => "NoneType"
  | .bool _ => "bool"
  | .int _ => "int"
  | .str _ => "str"
  | .list _ => "list"
  | .tuple _ => "tuple"
  | .dict _ => "dict"
theorem Dd.ty {K : PySem.W.Frag} {H : Hp} {v : V} {d : PyData} (h : Dd H v d) : TyX K H v (.type (tyN d)) := by
  cases h with
  | non => exact .base .non
  | bl b => exact .base (.bl b)
  | int i => exact .base (.int i)
  | str x => exact .base (.str x)
  | lst e _ => exact .base (.lst e)
  | tup e _ => exact .base (.tup e)
  | dic e _ => exact .base (.dK e)
def isIntD : PyData → Bool
  | .int _ | .bool _ => true
  | _ => false
def isBoolD : PyData → Bool
  | .bool _ => true
  | _ => false
def isTupD : PyData → Bool
  | .tuple _ => true
  | _ => false
theorem kit_int (K : PySem.W.Frag) (d : PyData) : PySem.W.kitOne K (.type (tyN d)) (.type "int") = some (isIntD d) := by
  cases d with
  | none => exact kit_ty (a := "NoneType") (b := "int") (r := false) (by decide +kernel)
  | bool _ => exact kit_ty (a := "bool") (b := "int") (r := true) (by decide +kernel)
  | int _ => exact kit_ty (a := "int") (b := "int") (r := true) (by decide +kernel)
  | str _ => exact kit_ty (a := "str") (b := "int") (r := false) (by decide +kernel)
  | list _ => exact kit_ty (a := "list") (b := "int") (r := false) (by decide +kernel)
  | tuple _ => exact kit_ty (a := "tuple") (b := "int") (r := false) (by decide +kernel)
  | dict _ => exact kit_ty (a := "dict") (b := "int") (r := false) (by decide +kernel)
theorem kit_bool (K : PySem.W.Frag) (d : PyData) : PySem.W.kitOne K (.type (tyN d)) (.type "bool") = some (isBoolD d) := by
  cases d with
  | none => exact kit_ty (a := "NoneType") (b := "bool") (r := false) (by decide +kernel)
  | bool _ => exact kit_ty (a := "bool") (b := "bool") (r := true) (by decide +kernel)
  | int _ => exact kit_ty (a := "int") (b := "bool") (r := false) (by decide +kernel)
  | str _ => exact kit_ty (a := "str") (b := "bool") (r := false) (by decide +kernel)
  | list _ => exact kit_ty (a := "list") (b := "bool") (r := false) (by decide +kernel)
  | tuple _ => exact kit_ty (a := "tuple") (b := "bool") (r := false) (by decide +kernel)
  | dict _ => exact kit_ty (a := "dict") (b := "bool") (r := false) (by decide +kernel)
theorem kit_tuple (K : PySem.W.Frag) (d : PyData) : PySem.W.kitOne K (.type (tyN d)) (.type "tuple") = some (isTupD d) := by
  cases d with
  | none => exact kit_ty (a := "NoneType") (b := "tuple") (r := false) (by decide +kernel)
  | bool _ => exact kit_ty (a := "bool") (b := "tuple") (r := false) (by decide +kernel)
  | int _ => exact kit_ty (a := "int") (b := "tuple") (r := false) (by decide +kernel)
  | str _ => exact kit_ty (a := "str") (b := "tuple") (r := false) (by decide +kernel)
  | list _ => exact kit_ty (a := "list") (b := "tuple") (r := false) (by decide +kernel)
  | tuple _ => exact kit_ty (a := "tuple") (b := "tuple") (r := true) (by decide +kernel)
  | dict _ => exact kit_ty (a := "dict") (b := "tuple") (r := false) (by decide +kernel)
end MG

/-! MG: twos, greatest common parts -/
namespace MG
open PySem

/-- how often 2 parts n (0 of 0) -/
def v2 (n : Nat) : Nat := if h : n = 0 then 0 else if n % 2 = 1 then 0 else v2 (n / 2) + 1
termination_by n
decreasing_by omega
theorem v2_odd {n : Nat} (h : n % 2 = 1) : v2 n = 0 := by
  rw [v2]
  simp [h]
theorem v2_even {n : Nat} (h0 : n ≠ 0) (h : n % 2 = 0) : v2 n = v2 (n / 2) + 1 := by
  rw [v2]
  rw [dif_neg h0, if_neg (by omega)]
theorem v2_mul2 {n : Nat} (h0 : n ≠ 0) : v2 (2 * n) = v2 n + 1 := by
  rw [v2_even (by omega) (by omega), show 2 * n / 2 = n by omega]
/-- n & (n - 1) takes the last one away -/
theorem land_pred : ∀ n : Nat, 0 < n → (n &&& (n - 1)) + 2 ^ v2 n = n := by
  intro n
  induction n using Nat.strongRecOn with
  | ind n ih =>
    intro hn
    have hd : (n &&& (n - 1)) / 2 = n / 2 &&& (n - 1) / 2 := Nat.and_div_two ..
    have hm := Nat.and_mod_two_eq_one (a := n) (b := n - 1)
    have hsplit := Nat.div_add_mod (n &&& (n - 1)) 2
    rcases Nat.mod_two_eq_zero_or_one n with h | h
    · have h2 : (n - 1) / 2 = n / 2 - 1 := by omega
      have hq : 0 < n / 2 := by omega
      have := ih (n / 2) (by omega) hq
      rw [h2] at hd
      have hz : (n &&& (n - 1)) % 2 = 0 := by
        rcases Nat.mod_two_eq_zero_or_one (n &&& (n - 1)) with z | z
        · exact z
        · have := (hm.mp z).1
          omega
      rw [v2_even (by omega) h, Nat.pow_succ]
      omega
    · have h2 : (n - 1) / 2 = n / 2 := by omega
      rw [h2, Nat.and_self] at hd
      have hz : (n &&& (n - 1)) % 2 = 0 := by
        rcases Nat.mod_two_eq_zero_or_one (n &&& (n - 1)) with z | z
        · exact z
        · have := (hm.mp z).2
          omega
      rw [v2_odd h]
      show _ + 1 = n
      omega
theorem low_bit {n : Int} (h : 0 < n) : Builtin.bitAnd n (-n) = 2 ^ v2 n.toNat := by
  have e : Builtin.bitNot (-n) = n - 1 := by
    show -(-n) - 1 = n - 1
    omega
  rw [PyProof.Rows.bitAnd_pn (by omega) (by omega), e]
  have h1 := land_pred n.toNat (by omega)
  have h2 : (n - 1).toNat = n.toNat - 1 := by omega
  rw [h2]
  have h3 : ((n.toNat &&& (n.toNat - 1) : Nat) : Int) + ((2 ^ v2 n.toNat : Nat) : Int) = n := by
    rw [← Int.natCast_add, h1]
    omega
  rw [show ((2 ^ v2 n.toNat : Nat) : Int) = 2 ^ v2 n.toNat from by rw [Int.natCast_pow]; rfl] at h3
  omega
theorem bits_pow (k : Nat) : (Builtin.Int.intBits ((2 : Int) ^ k) : Nat) = k + 1 := by
  unfold Builtin.Int.intBits
  have h0 : ((2 : Int) ^ k == 0) = false := by
    refine beq_eq_false_iff_ne.mpr ?_
    have : (0 : Int) < 2 ^ k := Int.pow_pos (by decide)
    omega
  rw [h0]
  have h1 : ((2 : Int) ^ k).natAbs = 2 ^ k := by
    rw [Int.natAbs_pow]
    rfl
  rw [if_neg Bool.false_ne_true, h1, Nat.log2_two_pow]
theorem pow_v2_dvd : ∀ n : Nat, 2 ^ v2 n ∣ n := by
  intro n
  induction n using Nat.strongRecOn with
  | ind n ih =>
    by_cases h0 : n = 0
    · subst h0; exact Nat.dvd_zero _
    · rcases Nat.mod_two_eq_zero_or_one n with h | h
      · rw [v2_even h0 h, Nat.pow_succ]
        have h1 := ih (n / 2) (by omega)
        have h2 : n = n / 2 * 2 := by omega
        rw [h2]
        exact Nat.mul_dvd_mul_right (by rw [show n / 2 * 2 / 2 = n / 2 by omega]; exact h1) 2
      · rw [v2_odd h]; exact Nat.one_dvd _
theorem v2_unique {n k m : Nat} (h : n = 2 ^ k * m) (hm : m % 2 = 1) : v2 n = k := by
  induction k generalizing n with
  | zero =>
    rw [Nat.pow_zero, Nat.one_mul] at h
    rw [h]; exact v2_odd hm
  | succ k ih =>
    have h0 : 2 ^ k * m ≠ 0 := by
      intro z
      rcases Nat.mul_eq_zero.mp z with z | z
      · exact absurd z (Nat.pos_iff_ne_zero.mp (Nat.two_pow_pos k))
      · omega
    rw [h, Nat.pow_succ, Nat.mul_comm (2 ^ k) 2, Nat.mul_assoc, v2_mul2 h0, ih rfl]
theorem odd_rest {n : Nat} (h : 0 < n) : n / 2 ^ v2 n % 2 = 1 := by
  induction n using Nat.strongRecOn with
  | ind n ih =>
    rcases Nat.mod_two_eq_zero_or_one n with z | z
    · rw [v2_even (by omega) z, Nat.pow_succ, Nat.mul_comm, ← Nat.div_div_eq_div_mul]
      exact ih (n / 2) (by omega) (by omega)
    · rw [v2_odd z, Nat.pow_zero, Nat.div_one]; exact z
theorem v2_split {n : Nat} (h : 0 < n) : n = 2 ^ v2 n * (n / 2 ^ v2 n) := (Nat.mul_div_cancel' (pow_v2_dvd n)).symm
theorem pow_dvd_iff {n k : Nat} (h : 0 < n) : 2 ^ k ∣ n ↔ k ≤ v2 n := by
  constructor
  · intro hd
    refine Nat.le_of_not_lt fun hlt => ?_
    have h1 : 2 ^ (v2 n + 1) ∣ n := Nat.dvd_trans (Nat.pow_dvd_pow 2 hlt) hd
    obtain ⟨c, hc⟩ := h1
    have h2 := odd_rest h
    have h3 : n / 2 ^ v2 n = 2 * c := by
      rw [hc]
      rw [← hc]
      have : n = 2 ^ v2 n * (2 * c) := by rw [← Nat.mul_assoc, ← Nat.pow_succ]; exact hc
      exact Nat.div_eq_of_eq_mul_right (Nat.two_pow_pos _) this
    omega
  · intro hk
    exact Nat.dvd_trans (Nat.pow_dvd_pow 2 hk) (pow_v2_dvd n)

/-- the greatest number that parts all -/
def gl : List Int → Nat
  | [] => 0
  | n :: r => Nat.gcd n.toNat (gl r)
theorem gl_append : ∀ (a b : List Int), gl (a ++ b) = Nat.gcd (gl a) (gl b)
  | [], b => by rw [List.nil_append, gl, Nat.gcd_zero_left]
  | n :: r, b => by rw [List.cons_append, gl, gl_append r b, gl, Nat.gcd_assoc]
theorem gl_perm {a b : List Int} (h : a.Perm b) : gl a = gl b := by
  induction h with
  | nil => rfl
  | cons x _ ih => rw [gl, gl, ih]
  | swap x y l => rw [gl, gl, gl, gl, ← Nat.gcd_assoc, ← Nat.gcd_assoc, Nat.gcd_comm y.toNat x.toNat]
  | trans _ _ ih1 ih2 => rw [ih1, ih2]
theorem gl_zeros : ∀ k : Nat, gl (List.replicate k 0) = 0
  | 0 => rfl
  | k + 1 => by rw [List.replicate_succ, gl, gl_zeros k]; rfl
theorem gl_dvd : ∀ {l : List Int} {n : Int}, n ∈ l → gl l ∣ n.toNat
  | m :: r, n, h => by
    rcases List.mem_cons.mp h with rfl | h
    · exact Nat.gcd_dvd_left _ _
    · exact Nat.dvd_trans (Nat.gcd_dvd_right _ _) (gl_dvd h)
theorem gl_pos : ∀ {l : List Int} {n : Int}, n ∈ l → 0 < n → 0 < gl l := fun {l n} h hn =>
  Nat.pos_of_ne_zero fun z => by
    have := gl_dvd h
    rw [z] at this
    have := Nat.eq_zero_of_zero_dvd this
    omega
theorem gl_le {l : List Int} {n : Int} (h : n ∈ l) (hn : 0 < n) : (gl l : Int) ≤ n := by
  have := Nat.le_of_dvd (by omega) (gl_dvd h)
  omega
theorem gl_mul (c : Int) (hc : 0 ≤ c) : ∀ {l : List Int}, (∀ n ∈ l, 0 ≤ n) → gl (l.map fun n => c * n) = c.toNat * gl l
  | [], _ => rfl
  | n :: r, h => by
    rw [List.map_cons, gl, gl, gl_mul c hc fun m hm => h m (List.mem_cons_of_mem _ hm), ← Nat.gcd_mul_left, Int.toNat_mul hc (h n List.mem_cons_self)]
theorem gl_filter : ∀ l : List Int, gl (l.filter fun n => decide (n > 0)) = gl l
  | [] => rfl
  | n :: r => by
    by_cases h : n > 0
    · rw [List.filter_cons_of_pos (by simpa using h), gl, gl, gl_filter r]
    · rw [List.filter_cons_of_neg (by simpa using h), gl_filter r, gl, show n.toNat = 0 by omega, Nat.gcd_zero_left]
/-- how many are parted by 2 no oftener than t -/
def fewT (t : Nat) (l : List Int) : List Int := l.filter fun n => decide (n > 0) && decide (v2 n.toNat ≤ t)
theorem fewT_perm {t : Nat} {a b : List Int} (h : a.Perm b) : (fewT t a).length = (fewT t b).length := (h.filter _).length_eq
theorem fewT_zeros (t k : Nat) : fewT t (List.replicate k 0) = [] := by
  unfold fewT
  refine List.filter_eq_nil_iff.mpr fun n hn => ?_
  rw [List.eq_of_mem_replicate hn]
  simp
end MG

namespace K84
open PySem PySem.Spec PyProof.Rows L2 MG
def topS (i : Nat) : Stmt := PySem.Challenge.pw_matchgift_k84_whole_all_wishes_of_small.main.body.getD i (.Pass ⟨0, 0, 0, 0⟩)
abbrev sBox : Stmt := topS 33
abbrev sTake : Stmt := topS 34
theorem same_upd {H : Hp} {p : Addr} {o : HO} (h : H p = none) : Same H (upd H p o) := fun b x e => by
  rw [upd_ne (ne_of_none e h)]
  exact e
theorem scBox : FnScope ["_law_script", "_law_k", "_law_cell", "_law_own"] ["_law_script", "_law_k"] (defScope sBox) := ⟨rfl, rfl, rfl, by decide +kernel, rfl, by decide +kernel, by decide +kernel⟩
theorem scTake : FnScope ["_law_box_here", "_law_many", "_law_digit", "_law_mixed"] ["_law_box_here", "_law_many"] (defScope sTake) := ⟨rfl, rfl, rfl, by decide +kernel, rfl, by decide +kernel, by decide +kernel⟩

def Box (H : Hp) (b : Addr) (n : Nat) : Prop := ∃ o m c : Int, H b = some (.lst [.int o, .int m, .int c]) ∧ 0 ≤ o ∧ o < 10 ^ 240 ∧ 0 ≤ m ∧ m < 2305843009213693921 ∧ 0 ≤ c ∧ c ≤ n
theorem Box.le {H : Hp} {b : Addr} {n n' : Nat} (h : Box H b n) (hn : n ≤ n') : Box H b n' := by
  obtain ⟨o, m, c, e, h1, h2, h3, h4, h5, h6⟩ := h
  exact ⟨o, m, c, e, h1, h2, h3, h4, h5, by omega⟩

theorem bit (b : Bool) : (-(2 ^ 64) : Int) < (if b = true then 1 else 0) ∧ (if b = true then (1 : Int) else 0) < 2 ^ 64 := by
  cases b <;> decide
theorem modb (x : Int) : (-(2 ^ 64) : Int) < x % 2305843009213693921 ∧ x % 2305843009213693921 < 2 ^ 64 := by
  have h1 := Int.emod_nonneg x (show (2305843009213693921 : Int) ≠ 0 by decide)
  have h2 := Int.emod_lt_of_pos x (show (0 : Int) < 2305843009213693921 by decide)
  omega
theorem own0 (x : Int) (b : Bool) : 0 ≤ x % 10 ^ 240 * (if b = true then 1 else 0) := by
  have := Int.emod_nonneg x (show (10 : Int) ^ 240 ≠ 0 by decide)
  cases b with
  | false => rw [if_neg Bool.false_ne_true]; omega
  | true => rw [if_pos rfl]; omega
theorem own1 (x : Int) (b : Bool) : x % 10 ^ 240 * (if b = true then 1 else 0) < 10 ^ 240 := by
  have := Int.emod_lt_of_pos x (show (0 : Int) < 10 ^ 240 by decide)
  cases b with
  | false => rw [if_neg Bool.false_ne_true, Int.mul_zero]; decide
  | true => rw [if_pos rfl, Int.mul_one]; exact this
section
variable {P : Program} {w : World} {K : PySem.W.Frag} {mg : Str → Option Value} {base : Heap}
def spBox (K : PySem.W.Frag) : Sp := fun vs H Q _ => ∃ (a : Addr) (ns : List Int) (k : Int), vs = [.ref a, .int k] ∧ SqL K H a (ns.map V.int) ∧ 0 ≤ k ∧ k ≤ 63 ∧
  ∀ p H', H p = none → Same H H' → Box H' p 0 → (∀ a, a ≠ p → H' a = H a) → Q (.ref p) H'
theorem ok_box {f : Addr} {fd : FuncData} {k : Nat} (F : Fun K "_law_box" "_law_box" sBox f fd) (ml : mg "len" = none) (mab : mg "abs" = none) (mI : mg "int" = none) :
    FnOk P w K mg base CX0 (k + 1) f fd ["_law_script", "_law_k"] (spBox K) := by
  refine F.ok scBox (fun vs H Q E h => ?_) (fun cdv A outer s H vs Q E hr h => ?_)
  · obtain ⟨a, ns, k, rfl, _⟩ := h
    rfl
  · obtain ⟨a, ns, k, rfl, hS, k0, k1, q⟩ := h
    refine ⟨_, pss_cons (ps_set (i := 2) scBox.nd rfl (.inl rfl) (pe_ifExp
          (pt_cmpR op_lt (pv 1) (pe_callB call_len_seq (by rfl) ml PySem.boot_len (pa_cons (pv 0) pa_nil)) (nomark _))
          (pe_ix ix_list (pv 0) (pv 1) (fun _ _ => rfl)) pe_int))
      (pss_cons (ps_set (i := 3) scBox.nd rfl (.inl rfl) (pe_op op_mul
          (pe_op op_mod (pe_callB call_abs (by rfl) mab (by decide +kernel) (pa_cons (pv 2) pa_nil))
            (pe_op op_mulW (pe_op op_mulW (pe_op op_mulW (pe_op op_pow pe_int pe_int) (pe_op op_pow pe_int pe_int)) (pe_op op_pow pe_int pe_int)) (pe_op op_pow pe_int pe_int)))
          (pe_callTy call_int1 (by rfl) mI (by decide +kernel) (pa_cons (pe_cmpR op_ge (pe_callB call_abs (by rfl) mab (by decide +kernel) (pa_cons (pv 2) pa_nil)) (pe_op op_pow pe_int pe_int) (nomark _)) pa_nil))))
      (pss_one (ps_ret (pe_lst (pa_cons (pv 3) (pa_cons
          (pe_op op_mod (pe_op op_mul (pe_op op_add (pe_op op_add (pe_op op_mod (pv 2) pe_int) (pe_op op_mul (pe_op op_mul pe_int (pv 1)) (pv 1))) pe_int) pe_int) pe_int)
          (pa_cons pe_int pa_nil))))))), ?_⟩
    have fin : ∀ o : Int, 0 ≤ o → o < 10 ^ 240 → ∀ m : Int, 0 ≤ m → m < 2305843009213693921 → ∀ p, H p = none → Q (.ref p) (upd H p (.lst [.int o, .int m, .int 0])) := by
      intro o o0 o1 m m0 m1 p hp
      refine q p _ hp (same_upd hp) ⟨o, m, 0, upd_same, o0, o1, m0, m1, by omega, by omega⟩ ?_
      intro a ha
      exact upd_ne ha
    have kk : (-(2 ^ 64) : Int) < k ∧ k < 2 ^ 64 := ⟨by omega, by omega⟩
    have w1 : CMulW ((10 : Int) ^ (60 : Int).toNat) (10 ^ (60 : Int).toNat) := by unfold CMulW; decide +kernel
    have w2 : CMulW ((10 : Int) ^ (60 : Int).toNat * 10 ^ (60 : Int).toNat) (10 ^ (60 : Int).toNat) := by unfold CMulW; decide +kernel
    have w3 : CMulW ((10 : Int) ^ (60 : Int).toNat * 10 ^ (60 : Int).toNat * 10 ^ (60 : Int).toNat) (10 ^ (60 : Int).toNat) := by unfold CMulW; decide +kernel
    have cp : CPow 10 60 := ⟨by decide, by decide, by decide⟩
    have cq : CPow 10 18 := ⟨by decide, by decide, by decide⟩
    have pos : (0 : Int) < 10 ^ (60 : Int).toNat * 10 ^ (60 : Int).toNat * 10 ^ (60 : Int).toNat * 10 ^ (60 : Int).toNat := by decide +kernel
    have emod : (10 : Int) ^ (60 : Int).toNat * 10 ^ (60 : Int).toNat * 10 ^ (60 : Int).toNat * 10 ^ (60 : Int).toNat = 10 ^ 240 := by decide +kernel
    refine ⟨_, rfl, .ref a, rfl, a, _, rfl, .inl hS, _, _, rfl, rfl, _, rfl, ite2 (fun hk => ?_) (fun hk => ?_)⟩
    · have hk' := of_decide_eq_true hk
      rw [List.length_map] at hk'
      obtain ⟨j, rfl⟩ : ∃ j : Nat, k = (j : Int) := ⟨k.toNat, by omega⟩
      have hj : j < ns.length := by omega
      refine ⟨.ref a, rfl, _, rfl, a, _, (j : Int), .int ns[j], rfl, rfl, hS, atI_nat (by rw [List.getElem?_map, List.getElem?_eq_getElem hj]; rfl), ?_⟩
      generalize ns[j] = cell
      refine ⟨.int cell, rfl, cell, rfl, 10, 60, rfl, rfl, cp, 10, 60, rfl, rfl, cp, _, _, rfl, rfl, w1, 10, 60, rfl, rfl, cp, _, _, rfl, rfl, w2, 10, 60, rfl, rfl, cp, _, _, rfl, rfl, w3, _, _, rfl, rfl, pos, ?_⟩
      refine ⟨.int cell, rfl, cell, rfl, 10, 18, rfl, rfl, cq, _, _, rfl, rfl, .inr ⟨_, rfl, _, _, rfl, rfl, .inr (bit _), ?_⟩⟩
      refine ⟨_, rfl, _, rfl, cell, 2305843009213693951, rfl, rfl, (by show (0 : Int) < 2305843009213693951; decide), _, rfl, 7919, (j : Int), rfl, rfl, .inl ⟨by decide, by decide⟩, _, rfl, _, (j : Int), rfl, rfl, .inr kk, _, _, rfl, rfl, _, 43, rfl, rfl, _, 48271, rfl, rfl, .inr ⟨by decide, by decide⟩, _, _, rfl, rfl, (by show (0 : Int) < 2305843009213693921; decide), ?_⟩
      refine ⟨by show 3 ≤ sizeLine; decide, ?_⟩
      rw [emod]
      exact fin _ (own0 _ _) (own1 _ _) _ (Int.emod_nonneg _ (by decide)) (Int.emod_lt_of_pos _ (by decide))
    · skip
      refine ⟨.int 0, rfl, 0, rfl, 10, 60, rfl, rfl, cp, 10, 60, rfl, rfl, cp, _, _, rfl, rfl, w1, 10, 60, rfl, rfl, cp, _, _, rfl, rfl, w2, 10, 60, rfl, rfl, cp, _, _, rfl, rfl, w3, _, _, rfl, rfl, pos, ?_⟩
      refine ⟨.int 0, rfl, 0, rfl, 10, 18, rfl, rfl, cq, _, _, rfl, rfl, .inr ⟨_, rfl, _, _, rfl, rfl, .inr (bit _), ?_⟩⟩
      refine ⟨_, rfl, _, rfl, 0, 2305843009213693951, rfl, rfl, (by show (0 : Int) < 2305843009213693951; decide), _, rfl, 7919, k, rfl, rfl, .inl ⟨by decide, by decide⟩, _, rfl, _, k, rfl, rfl, .inr kk, _, _, rfl, rfl, _, 43, rfl, rfl, _, 48271, rfl, rfl, .inr ⟨by decide, by decide⟩, _, _, rfl, rfl, (by show (0 : Int) < 2305843009213693921; decide), ?_⟩
      refine ⟨by show 3 ≤ sizeLine; decide, ?_⟩
      rw [emod]
      exact fin _ (own0 _ _) (own1 _ _) _ (Int.emod_nonneg _ (by decide)) (Int.emod_lt_of_pos _ (by decide))

def spTake : Sp := fun vs H Q _ => ∃ b many n, vs = [.ref b, .int many] ∧ Box H b n ∧ n ≤ 1000000 ∧ 1 ≤ many ∧ many ≤ 10 ^ 40 ∧
  ∀ r H', 0 ≤ r → r < many → Box H' b (n + 1) → (∀ a, a ≠ b → H' a = H a) → Q (.int r) H'
theorem ok_take {f : Addr} {fd : FuncData} {k : Nat} (F : Fun K "_law_take" "_law_take" sTake f fd) :
    FnOk P w K mg base CX0 (k + 1) f fd ["_law_box_here", "_law_many"] spTake := by
  refine F.ok scTake (fun vs H Q E h => ?_) (fun cdv A outer s H vs Q E hr h => ?_)
  · obtain ⟨b, many, n, rfl, _⟩ := h
    rfl
  · obtain ⟨b, many, n, rfl, ⟨o, m, c, e, h1, h2, h3, h4, h5, h6⟩, hn, m1, m2, q⟩ := h
    refine ⟨_, pss_cons (ps_if (pt_cmpR op_gt (pe_ix ix_list (pv 0) pe_int (fun _ _ => rfl)) pe_int (nomark _))
        (pss_cons (ps_set (i := 2) scTake.nd rfl (.inl rfl) (pe_op op_mod (pe_ix ix_list (pv 0) pe_int (fun _ _ => rfl)) (pv 1)))
        (pss_cons (ps_asg (pe_op op_fdivW (pe_ix ix_list (pv 0) pe_int (fun _ _ => rfl)) (pv 1)) (pg_sub (pv 0) pe_int set_list))
        (pss_one (ps_ret (pv 2))))) pss_nil)
      (pss_cons (ps_asg (pe_op op_add (pe_ix ix_list (pv 0) pe_int (fun _ _ => rfl)) pe_int) (pg_sub (pv 0) pe_int set_list))
      (pss_cons (ps_set (i := 3) scTake.nd rfl (.inl rfl) (pe_op op_mod (pe_op op_mul
          (pe_op op_add (pe_op op_add (pe_ix ix_list (pv 0) pe_int (fun _ _ => rfl)) (pe_op op_mul (pe_op op_mul pe_int (pe_ix ix_list (pv 0) pe_int (fun _ _ => rfl))) (pe_ix ix_list (pv 0) pe_int (fun _ _ => rfl)))) pe_int) pe_int) pe_int))
      (pss_cons (ps_set (i := 3) scTake.nd rfl (.inl rfl) (pe_op op_mod (pe_op op_mul (pv 3)
          (pe_op op_add (pe_op op_mod (pv 3) pe_int) (pe_op op_mul pe_int (pe_ix ix_list (pv 0) pe_int (fun _ _ => rfl))))) pe_int))
      (pss_one (ps_ret (pe_op op_mod (pe_op op_add (pe_op op_fdiv (pv 3) pe_int) (pe_op op_fdiv (pv 3) pe_int)) (pv 1))))))), ?_⟩
    have hdiv : CDivW o many := wide_div (b := 200) (by omega) (by omega) (by decide) (by decide)
    have hmany : (fun (_ j : Int) => 0 < j) o many := show 0 < many by omega
    refine ⟨.ref b, rfl, b, _, 0, .int o, rfl, rfl, SqL.of e, atI_nat (j := 0) rfl, o, 0, rfl, rfl, _, rfl, ite2 (fun ho => ?_) (fun ho => ?_)⟩
    · refine ⟨.ref b, rfl, b, _, 0, .int o, rfl, rfl, SqL.of e, atI_nat (j := 0) rfl, _, rfl, o, many, rfl, rfl, hmany, ?_⟩
      refine ⟨.ref b, rfl, b, _, 0, .int o, rfl, rfl, SqL.of e, atI_nat (j := 0) rfl, _, rfl, o, many, rfl, rfl, hdiv, .ref b, rfl, b, _, 0, 0, rfl, rfl, e, rfl, ?_⟩
      refine ⟨_, rfl, ?_⟩
      refine q _ _ (Int.emod_nonneg _ (by omega)) (Int.emod_lt_of_pos _ (by omega)) ⟨o / many, m, c, upd_same, ?_, ?_, h3, h4, h5, by omega⟩ ?_
      · exact Int.ediv_nonneg h1 (by omega)
      · exact Int.lt_of_le_of_lt (Int.ediv_le_self _ h1) h2
      · intro a ha
        exact upd_ne ha
    · have hc1 : (-(2 ^ 64) : Int) < c + 1 ∧ c + 1 < 2 ^ 64 := ⟨by omega, by omega⟩
      refine ⟨.ref b, rfl, b, _, 2, .int c, rfl, rfl, SqL.of e, atI_nat (j := 2) rfl, c, 1, rfl, rfl, .ref b, rfl, b, _, 2, 2, rfl, rfl, e, rfl, ?_⟩
      generalize hH : upd H b (HO.lst (List.set [V.int o, V.int m, V.int c] 2 (V.int (c + 1)))) = H2
      have e2 : H2 b = some (.lst [.int o, .int m, .int (c + 1)]) := by rw [← hH]; exact upd_same
      have off : ∀ a, a ≠ b → H2 a = H a := fun a ha => by rw [← hH]; exact upd_ne ha
      refine ⟨.ref b, rfl, b, _, 1, .int m, rfl, rfl, SqL.of e2, atI_nat (j := 1) rfl, .ref b, rfl, b, _, 2, .int (c + 1), rfl, rfl, SqL.of e2, atI_nat (j := 2) rfl, 65537, c + 1, rfl, rfl, .inr hc1, .ref b, rfl, b, _, 2, .int (c + 1), rfl, rfl, SqL.of e2, atI_nat (j := 2) rfl, _, c + 1, rfl, rfl, .inr hc1, m, _, rfl, rfl, _, 11, rfl, rfl, _, 48271, rfl, rfl, .inr ⟨by decide, by decide⟩, _, _, rfl, rfl, (by show (0 : Int) < 2305843009213693921; decide), ?_⟩
      refine ⟨_, rfl, _, rfl, _, 1000003, rfl, rfl, (by show (0 : Int) < 1000003; decide), .ref b, rfl, b, _, 2, .int (c + 1), rfl, rfl, SqL.of e2, atI_nat (j := 2) rfl, 99991, c + 1, rfl, rfl, .inr hc1, _, _, rfl, rfl, _, _, rfl, rfl, .inl (modb _), _, _, rfl, rfl, (by show (0 : Int) < 2305843009213693907; decide), ?_⟩
      refine ⟨_, rfl, _, 97, rfl, rfl, ⟨by decide, by decide⟩, _, rfl, _, 1000033, rfl, rfl, ⟨by decide, by decide⟩, _, _, rfl, rfl, .int many, rfl, _, many, rfl, rfl, (by show (0 : Int) < many; omega), ?_⟩
      refine q _ _ (Int.emod_nonneg _ (by omega)) (Int.emod_lt_of_pos _ (by omega)) ⟨o, m, c + 1, e2, h1, h2, h3, h4, by omega, by omega⟩ off

end
/-! ### what stays while the box is drawn from -/
def SX (b : Addr) (H H' : Hp) : Prop := ∀ a o, a ≠ b → H a = some o → H' a = some o
theorem SX.refl (b : Addr) (H : Hp) : SX b H H := fun _ _ _ h => h
theorem SX.trans {b : Addr} {H H1 H2 : Hp} (x : SX b H H1) (y : SX b H1 H2) : SX b H H2 := fun a o n h => y a o n (x a o n h)
theorem SX.of_same {b : Addr} {H H' : Hp} (h : Same H H') : SX b H H' := fun a o _ e => h a o e
theorem SX.of_eq {b : Addr} {H H' : Hp} (h : ∀ a, a ≠ b → H' a = H a) : SX b H H' := fun a o n e => by rw [h a n]; exact e
theorem SX.new {b : Addr} {H H' : Hp} {p : Addr} {o : HO} (x : SX b H H') (hp : H' p = none) : SX b H (upd H' p o) := x.trans (.of_same (same_upd hp))
theorem SX.free {b p : Addr} {H H' : Hp} {n : Nat} (x : SX b H H') (hB : Box H' b n) (h : H' p = none) : H p = none := by
  cases e : H p with
  | none => rfl
  | some o =>
    by_cases hb : p = b
    · subst hb
      obtain ⟨_, _, _, z, _⟩ := hB
      rw [h] at z
      cases z
    · rw [x p o hb e] at h
      cases h
theorem Box.at {H H' : Hp} {b : Addr} {n : Nat} (h : Box H b n) (e : H' b = H b) : Box H' b n := by
  obtain ⟨o, m, c, z, r⟩ := h
  exact ⟨o, m, c, by rw [e]; exact z, r⟩
theorem Box.new {H : Hp} {b p : Addr} {n : Nat} {o : HO} (h : Box H b n) (hp : H p = none) : Box (upd H p o) b n := by
  obtain ⟨_, _, _, z, _⟩ := id h
  exact h.at (upd_ne (ne_of_none z hp))
theorem Box.some {H : Hp} {b : Addr} {n : Nat} (h : Box H b n) : H b ≠ none := by
  obtain ⟨_, _, _, z, _⟩ := h
  rw [z]
  exact fun q => nomatch q

end K84

namespace K84
open PySem PySem.Spec PyProof.Rows L2 MG
abbrev sTwosIn : Stmt := topS 1
abbrev sOddPart : Stmt := topS 2
abbrev sCommon : Stmt := topS 3
abbrev sUnit : Stmt := topS 4
abbrev sMeasure : Stmt := topS 5
abbrev sTwos : Stmt := topS 6
abbrev sOddOnes : Stmt := topS 7
theorem scTwosIn : FnScope ["n"] ["n"] (defScope sTwosIn) := ⟨rfl, rfl, rfl, by decide +kernel, rfl, by decide +kernel, by decide +kernel⟩
theorem scOddPart : FnScope ["n"] ["n"] (defScope sOddPart) := ⟨rfl, rfl, rfl, by decide +kernel, rfl, by decide +kernel, by decide +kernel⟩
theorem scCommon : FnScope ["a", "b"] ["a", "b"] (defScope sCommon) := ⟨rfl, rfl, rfl, by decide +kernel, rfl, by decide +kernel, by decide +kernel⟩
theorem scUnit : FnScope ["row", "greatest", "amount"] ["row"] (defScope sUnit) := ⟨rfl, rfl, rfl, by decide +kernel, rfl, by decide +kernel, by decide +kernel⟩
theorem scMeasure : FnScope ["row"] ["row"] (defScope sMeasure) := ⟨rfl, rfl, rfl, by decide +kernel, rfl, by decide +kernel, by decide +kernel⟩
theorem scTwos : FnScope ["row"] ["row"] (defScope sTwos) := ⟨rfl, rfl, rfl, by decide +kernel, rfl, by decide +kernel, by decide +kernel⟩
theorem scOddOnes : FnScope ["row", "fewest_twos", "amount"] ["row"] (defScope sOddOnes) := ⟨rfl, rfl, rfl, by decide +kernel, rfl, by decide +kernel, by decide +kernel⟩

theorem gl_take_succ (ns : List Int) (i : Nat) (h : i < ns.length) : gl (ns.take (i + 1)) = Nat.gcd (gl (ns.take i)) ns[i].toNat := by
  rw [List.take_add_one, List.getElem?_eq_getElem h, gl_append]
  show Nat.gcd _ (Nat.gcd _ 0) = _
  rw [Nat.gcd_zero_right]

section
variable {P : Program} {w : World} {K : PySem.W.Frag} {mg : Str → Option Value} {base : Heap}
def spTwosIn : Sp := fun vs H Q _ => ∃ n : Int, vs = [.int n] ∧ 0 < n ∧ Q (.int (v2 n.toNat : Nat)) H
theorem ok_twosIn {f : Addr} {fd : FuncData} {k : Nat} (F : Fun K "twos_in" "twos_in" sTwosIn f fd) : FnOk P w K mg base CX0 (k + 1) f fd ["n"] spTwosIn := by
  refine F.ok scTwosIn (fun vs H Q E h => ?_) (fun cdv A outer s H vs Q E hr h => ?_)
  · obtain ⟨n, rfl, _⟩ := h
    rfl
  · obtain ⟨n, rfl, hn, q⟩ := h
    refine ⟨_, pss_one (ps_ret (pe_op op_sub (pe_bits (pe_op op_and (pv 0) (pe_un un_neg (pv 0)))) pe_int)), ?_⟩
    refine ⟨_, rfl, _, rfl, n, rfl, n, -n, rfl, rfl, _, rfl, _, 1, rfl, rfl, ?_⟩
    rw [low_bit hn, bits_pow]
    show Q (.int (((v2 n.toNat + 1 : Nat) : Int) - 1)) H
    rw [show (((v2 n.toNat + 1 : Nat) : Int) - 1) = ((v2 n.toNat : Nat) : Int) by omega]
    exact q
def spOddPart : Sp := fun vs H Q _ => ∃ n : Int, vs = [.int n] ∧ 0 < n ∧ Q (.int (n / 2 ^ v2 n.toNat)) H
theorem ok_oddPart {f fT : Addr} {fd fdT : FuncData} {k : Nat} (F : Fun K "odd_part" "odd_part" sOddPart f fd) (FT : Fun K "twos_in" "twos_in" sTwosIn fT fdT) (bT : Binds K fdT ["n"] []) (gT : mg "twos_in" = some (.ref fT)) :
    FnOk P w K mg base CX0 (k + 2) f fd ["n"] spOddPart := by
  have GT : FnOk P w K mg base CX0 (k + 1) fT fdT ["n"] spTwosIn := ok_twosIn FT
  refine F.ok scOddPart (fun vs H Q E h => ?_) (fun cdv A outer s H vs Q E hr h => ?_)
  · obtain ⟨n, rfl, _⟩ := h
    rfl
  · obtain ⟨n, rfl, hn, q⟩ := h
    refine ⟨_, pss_one (ps_ret (pe_op op_shr (pv 0) (pe_call GT hr (by rfl) gT FT.kp bT .nil pass0 (pa_cons (pv 0) pa_nil)))), ?_⟩
    refine ⟨_, rfl, _, rfl, n, rfl, hn, n, _, rfl, rfl, Int.natCast_nonneg _, ?_⟩
    exact q
def spCommon : Sp := fun vs H Q _ => ∃ a b : Nat, vs = [.int a, .int b] ∧ Q (.int (Nat.gcd a b : Nat)) H
theorem ok_common {f : Addr} {fd : FuncData} {k : Nat} (F : Fun K "common_part" "common_part" sCommon f fd) : FnOk P w K mg base CX0 (k + 1) f fd ["a", "b"] spCommon := by
  refine F.ok scCommon (fun vs H Q E h => ?_) (fun cdv A outer s H vs Q E hr h => ?_)
  · obtain ⟨a, b, rfl, _⟩ := h
    rfl
  · obtain ⟨a, b, rfl, q⟩ := h
    refine ⟨_, pss_cons (ps_while PassesOwn.never (pt_cmpR op_gt (pv 1) pe_int (nomark _)) (pss_one (ps_par (i := 0) (j := 1) rfl scCommon.nd rfl rfl (by decide) rfl rfl (pa_cons (pv 1) (pa_cons (pe_op op_mod (pv 0) (pv 1)) pa_nil)) (by rfl))))
      (pss_one (ps_ret (pv 0))), ?_⟩
    refine while_by (fun σ H' => ∃ x y : Nat, σ = [some (.int x), some (.int y)] ∧ H' = H ∧ Nat.gcd x y = Nat.gcd a b) (fun σ _ => match σ with | [_, some (.int y)] => y.toNat | _ => 0) ⟨a, b, rfl, rfl, rfl⟩ ?_ ?_
    · rintro σ H' ⟨x, y, rfl, rfl, hg⟩
      refine ⟨_, rfl, (y : Int), 0, rfl, rfl, _, rfl, ite2 (fun hy => ?_) (fun hy => ?_)⟩
      · have hy' : 0 < y := by have := of_decide_eq_true hy; omega
        refine ⟨_, rfl, _, rfl, _, rfl, (x : Int), (y : Int), rfl, rfl, (by show (0 : Int) < y; omega), _, _, rfl, ⟨y, x % y, ?_, rfl, ?_⟩, ?_⟩
        · rw [Int.natCast_emod]; rfl
        · rw [← hg, Nat.gcd_comm x y, Nat.gcd_rec y x, Nat.gcd_comm]
        · show ((x : Int) % (y : Int)).toNat < (y : Int).toNat
          rw [← Int.natCast_emod]
          have := Nat.mod_lt x hy'
          omega
      · have hy' : y = 0 := by
          have : ¬ (y : Int) > 0 := fun z => hy (decide_eq_true z)
          omega
        subst hy'
        rw [Nat.gcd_zero_right] at hg
        refine ⟨_, rfl, ?_⟩
        rw [hg]
        exact q
    · rintro σ H' Q1 Q2 hq ⟨x, e1, i, j, e2, e3, z, e4, h⟩
      exact ⟨x, e1, i, j, e2, e3, z, e4, hq _ _ h⟩
def Row (H : Hp) (a : Addr) (ns : List Int) : Prop := H a = some (.tup (ns.map V.int)) ∧ (∀ n ∈ ns, 0 ≤ n ∧ n < 2 ^ 250) ∧ ns.length ≤ 40 ∧ ∃ n ∈ ns, 0 < n
theorem Row.same {H H' : Hp} {a : Addr} {ns : List Int} (r : Row H a ns) (s : Same H H') : Row H' a ns := ⟨s _ _ r.1, r.2⟩
theorem Row.pos {H : Hp} {a : Addr} {ns : List Int} (r : Row H a ns) : 0 < gl ns := by
  obtain ⟨_, _, _, n, hn, h0⟩ := r
  exact gl_pos hn h0
theorem Row.lt {H : Hp} {a : Addr} {ns : List Int} (r : Row H a ns) : (gl ns : Int) < 2 ^ 250 := by
  obtain ⟨_, hb, _, n, hn, h0⟩ := r
  exact Int.lt_of_le_of_lt (gl_le hn h0) (hb n hn).2
def spUnit : Sp := fun vs H Q _ => ∃ a ns, vs = [.ref a] ∧ Row H a ns ∧ Q (.int (gl ns : Nat)) H
theorem ok_unit {f fC : Addr} {fd fdC : FuncData} {k : Nat} (F : Fun K "unit" "unit" sUnit f fd) (FC : Fun K "common_part" "common_part" sCommon fC fdC) (bC : Binds K fdC ["a", "b"] []) (gC : mg "common_part" = some (.ref fC)) :
    FnOk P w K mg base CX0 (k + 2) f fd ["row"] spUnit := by
  have GC : FnOk P w K mg base CX0 (k + 1) fC fdC ["a", "b"] spCommon := ok_common FC
  refine F.ok scUnit (fun vs H Q E h => ?_) (fun cdv A outer s H vs Q E hr h => ?_)
  · obtain ⟨a, ns, rfl, _⟩ := h
    rfl
  · obtain ⟨a, ns, rfl, r, q⟩ := h
    refine ⟨_, pss_cons (ps_set (i := 1) scUnit.nd rfl (.inl rfl) pe_int) (pss_cons (ps_for PassesOwn.never rfl (pi_tup (pv 0)) (pg_name (i := 2) scUnit.nd rfl (.inl rfl))
        (pss_one (ps_set (i := 1) scUnit.nd rfl (.inl rfl) (pe_call GC hr (by rfl) gC FC.kp bC .nil pass0 (pa_cons (pv 1) (pa_cons (pv 2) pa_nil))))))
      (pss_one (ps_ret (pv 1)))), ?_⟩
    refine ⟨.ref a, rfl, a, rfl, ⟨_, SqT.of r.1⟩, ?_⟩
    refine for_tup (K := K) (a := a) (xs := ns.map V.int) (fun i σ H' => ∃ y2, σ = [some (.ref a), some (.int (gl (ns.take i) : Nat)), y2] ∧ H' = H) ⟨none, rfl, rfl⟩ ?_ ?_ ?_
    · rintro i σ H' _ ⟨y2, rfl, rfl⟩
      exact SqT.of r.1
    · rintro i x σ H' hx ⟨y2, rfl, rfl⟩
      rw [List.getElem?_map] at hx
      obtain ⟨n, hn, rfl⟩ := Option.map_eq_some_iff.mp hx
      obtain ⟨hi, hn'⟩ := List.getElem?_eq_some_iff.mp hn
      have h0 : 0 ≤ n := (r.2.1 n (List.mem_of_getElem? hn)).1
      refine ⟨_, rfl, _, rfl, gl (ns.take i), n.toNat, by rw [Int.toNat_of_nonneg h0]; rfl, some (.int n), ?_, rfl⟩
      rw [gl_take_succ ns i hi, hn']
      rfl
    · rintro σ H' ⟨y2, rfl, rfl⟩
      rw [List.length_map, List.take_length]
      exact ⟨_, rfl, q⟩
def spMeasure : Sp := fun vs H Q _ => ∃ a ns, vs = [.ref a] ∧ Row H a ns ∧ Q (.int ((gl ns : Nat) / 2 ^ v2 (gl ns))) H
def spTwos : Sp := fun vs H Q _ => ∃ a ns, vs = [.ref a] ∧ Row H a ns ∧ Q (.int (v2 (gl ns) : Nat)) H
theorem ok_measure {f fO fU : Addr} {fd fdO fdU : FuncData} {k : Nat} (F : Fun K "measure" "measure" sMeasure f fd) (FO : Fun K "odd_part" "odd_part" sOddPart fO fdO) (bO : Binds K fdO ["n"] []) (gO : mg "odd_part" = some (.ref fO)) (GO : FnOk P w K mg base CX0 (k + 2) fO fdO ["n"] spOddPart)
    (FU : Fun K "unit" "unit" sUnit fU fdU) (bU : Binds K fdU ["row"] []) (gU : mg "unit" = some (.ref fU)) (GU : FnOk P w K mg base CX0 (k + 2) fU fdU ["row"] spUnit) : FnOk P w K mg base CX0 (k + 3) f fd ["row"] spMeasure := by
  refine F.ok scMeasure (fun vs H Q E h => ?_) (fun cdv A outer s H vs Q E hr h => ?_)
  · obtain ⟨a, ns, rfl, _⟩ := h
    rfl
  · obtain ⟨a, ns, rfl, r, q⟩ := h
    refine ⟨_, pss_one (ps_ret (pe_call GO hr (by rfl) gO FO.kp bO .nil pass0 (pa_cons (pe_call GU hr (by rfl) gU FU.kp bU .nil pass0 (pa_cons (pv 0) pa_nil)) pa_nil))), ?_⟩
    have := r.pos
    refine ⟨_, rfl, a, ns, rfl, r, _, rfl, by omega, ?_⟩
    rw [Int.toNat_natCast]
    exact q
theorem ok_twos {f fT fU : Addr} {fd fdT fdU : FuncData} {k : Nat} (F : Fun K "twos" "twos" sTwos f fd) (FT : Fun K "twos_in" "twos_in" sTwosIn fT fdT) (bT : Binds K fdT ["n"] []) (gT : mg "twos_in" = some (.ref fT)) (GT : FnOk P w K mg base CX0 (k + 1) fT fdT ["n"] spTwosIn)
    (FU : Fun K "unit" "unit" sUnit fU fdU) (bU : Binds K fdU ["row"] []) (gU : mg "unit" = some (.ref fU)) (GU : FnOk P w K mg base CX0 (k + 2) fU fdU ["row"] spUnit) : FnOk P w K mg base CX0 (k + 3) f fd ["row"] spTwos := by
  refine F.ok scTwos (fun vs H Q E h => ?_) (fun cdv A outer s H vs Q E hr h => ?_)
  · obtain ⟨a, ns, rfl, _⟩ := h
    rfl
  · obtain ⟨a, ns, rfl, r, q⟩ := h
    refine ⟨_, pss_one (ps_ret (pe_call GT (hr.mono (by omega)) (by rfl) gT FT.kp bT .nil pass0 (pa_cons (pe_call GU hr (by rfl) gU FU.kp bU .nil pass0 (pa_cons (pv 0) pa_nil)) pa_nil))), ?_⟩
    have := r.pos
    refine ⟨_, rfl, a, ns, rfl, r, _, rfl, by omega, ?_⟩
    rw [Int.toNat_natCast]
    exact q
def spOddOnes : Sp := fun vs H Q _ => ∃ a ns, vs = [.ref a] ∧ Row H a ns ∧ ∀ H', Same H H' → Q (.int ((fewT (v2 (gl ns)) ns).length : Nat)) H'
theorem fewT_succ (t : Nat) (ns : List Int) (i : Nat) (h : i < ns.length) : fewT t (ns.take (i + 1)) = fewT t (ns.take i) ++ (if (decide (ns[i] > 0) && decide (v2 ns[i].toNat ≤ t)) = true then [ns[i]] else []) := by
  unfold fewT
  rw [List.take_add_one, List.getElem?_eq_getElem h, List.filter_append]
  congr 1
  show List.filter _ [ns[i]] = _
  rw [List.filter_cons, List.filter_nil]
theorem ok_oddOnes {f fT fS : Addr} {fd fdT fdS : FuncData} {k : Nat} (F : Fun K "odd_ones" "odd_ones" sOddOnes f fd) (FT : Fun K "twos_in" "twos_in" sTwosIn fT fdT) (bT : Binds K fdT ["n"] []) (gT : mg "twos_in" = some (.ref fT)) (GT : FnOk P w K mg base CX0 (k + 1) fT fdT ["n"] spTwosIn)
    (FS : Fun K "twos" "twos" sTwos fS fdS) (bS : Binds K fdS ["row"] []) (gS : mg "twos" = some (.ref fS)) (GS : FnOk P w K mg base CX0 (k + 3) fS fdS ["row"] spTwos) (ml : mg "len" = none) : FnOk P w K mg base CX0 (k + 4) f fd ["row"] spOddOnes := by
  refine F.ok scOddOnes (fun vs H Q E h => ?_) (fun cdv A outer s H vs Q E hr h => ?_)
  · obtain ⟨a, ns, rfl, _⟩ := h
    rfl
  · obtain ⟨a, ns, rfl, r, q⟩ := h
    have hr1 := hr.mono (show k + 1 ≤ k + 3 by omega)
    refine ⟨_, pss_cons (ps_set (i := 1) scOddOnes.nd rfl (.inr rfl) (pe_call GS hr (by rfl) gS FS.kp bS .nil pass0 (pa_cons (pv 0) pa_nil)))
      (pss_one (ps_ret (pe_callB call_len_seq (by rfl) ml PySem.boot_len (pa_cons
        (pe_lc (own := [("amount", 2)]) (g := gName 2) rfl scOddOnes.nd (pi_tup (pv 0)) (blkOk_by (N := ["row", "fewest_twos", "amount"]) (sc := defScope sOddOnes) (by decide +kernel))
          (fun _ _ _ _ _ => pg_name (i := 2) scOddOnes.nd rfl (Or.inl rfl))
          (fun _ _ _ _ _ => pts_one (PW.pt (pw_and (pt_cmpR op_gt (pv 2) pe_int (nomark _)) (pw_and1 (pt_cmpR op_le (pe_call GT hr1 (by rfl) gT FT.kp bT .nil pass0 (pa_cons (pv 2) pa_nil)) (pv 1) (nomark _))))))
          (fun _ _ _ _ _ => pv 2)) pa_nil)))), ?_⟩
    refine ⟨_, rfl, a, ns, rfl, r, ?_⟩
    refine ⟨.ref a, rfl, a, rfl, ⟨_, SqT.of r.1⟩, fun D nD => ?_⟩
    refine lc_tup (K := K) (a := a) (xs := ns.map V.int) (fun i H' => Same H H' ∧ H' D = some (.lst ((fewT (v2 (gl ns)) (ns.take i)).map V.int))) ⟨same_upd nD, upd_same⟩ ?_ ?_ ?_
    · rintro i H' _ ⟨sm, _⟩
      exact SqT.of (sm _ _ r.1)
    · rintro i x H' hx ⟨sm, hD⟩
      rw [List.getElem?_map] at hx
      obtain ⟨n, hn, rfl⟩ := Option.map_eq_some_iff.mp hx
      obtain ⟨hi, hn'⟩ := List.getElem?_eq_some_iff.mp hn
      have small : ((fewT (v2 (gl ns)) (ns.take i)).map V.int).length < sizeLine := by
        rw [List.length_map]
        refine small1000 (Nat.le_trans (List.length_filter_le _ _) ?_)
        rw [List.length_take]
        have := r.2.2.1
        omega
      refine ⟨rfl, _, rfl, n, 0, rfl, rfl, _, rfl, ite2 (fun h1 => ?_) (fun h1 => ?_)⟩
      · have h1' : 0 < n := of_decide_eq_true h1
        refine ⟨_, rfl, n, rfl, h1', _, rfl, _, _, rfl, rfl, _, rfl, ite2 (fun h2 => ?_) (fun h2 => ?_)⟩
        · have h2' : v2 n.toNat ≤ v2 (gl ns) := by have := of_decide_eq_true h2; omega
          refine ⟨_, rfl, _, hD, small, ?_, ?_⟩
          · intro c o hc
            rw [upd_ne (ne_of_none hc nD)]
            exact sm c o hc
          · rw [upd_same, fewT_succ _ _ _ hi, hn', decide_eq_true h1', decide_eq_true h2', List.map_append]
            rfl
        · have h2' : ¬ v2 n.toNat ≤ v2 (gl ns) := fun z => h2 (decide_eq_true (by omega))
          refine ⟨sm, ?_⟩
          rw [fewT_succ _ _ _ hi, hn', decide_eq_false h2', Bool.and_false, if_neg Bool.false_ne_true, List.append_nil]
          exact hD
      · have h1' : ¬ n > 0 := fun z => h1 (decide_eq_true z)
        refine iteF ⟨sm, ?_⟩
        rw [fewT_succ _ _ _ hi, hn', decide_eq_false h1', Bool.false_and, if_neg Bool.false_ne_true, List.append_nil]
        exact hD
    · rintro H' ⟨sm, hD⟩
      rw [List.length_map, List.take_length] at hD
      refine ⟨D, _, rfl, .inl (SqL.of hD), ?_⟩
      rw [List.length_map]
      exact q H' sm
end
end K84

namespace K84
open PySem PySem.Spec PyProof.Rows L2 MG
abbrev sSplit : Stmt := topS 35
abbrev sPlaces : Stmt := topS 36
theorem scSplit : FnScope ["_law_box_here", "_law_total", "_law_many", "_law_left", "_law_found", "_law_turn", "_law_more"] ["_law_box_here", "_law_total", "_law_many"] (defScope sSplit) := ⟨rfl, rfl, rfl, by decide +kernel, rfl, by decide +kernel, by decide +kernel⟩
theorem scPlaces : FnScope ["_law_box_here", "_law_amounts", "_law_nothing", "_law_left", "_law_found"] ["_law_box_here", "_law_amounts", "_law_nothing"] (defScope sPlaces) := ⟨rfl, rfl, rfl, by decide +kernel, rfl, by decide +kernel, by decide +kernel⟩
theorem Box.get {H : Hp} {b : Addr} {n : Nat} (h : Box H b n) : ∃ o, H b = Option.some o := by
  obtain ⟨_, _, _, z, _⟩ := h
  exact ⟨_, z⟩
/-- a change of what is new -/
theorem SX.set {b p : Addr} {H H' : Hp} {o : HO} (x : SX b H H') (hp : H p = none) : SX b H (upd H' p o) := fun a u na e => by
  rw [upd_ne (ne_of_none e hp)]
  exact x a u na e
theorem Box.set {H : Hp} {b p : Addr} {n : Nat} {o : HO} (h : Box H b n) (hp : b ≠ p) : Box (upd H p o) b n := h.at (upd_ne hp)
theorem erase_perm {α : Type} : ∀ (l : List α) (j : Nat) (h : j < l.length), (l[j] :: l.eraseIdx j).Perm l
  | x :: r, 0, _ => List.Perm.refl _
  | x :: r, j + 1, h => by
    have h' : j < r.length := by rw [List.length_cons] at h; omega
    show (r[j] :: x :: r.eraseIdx j).Perm (x :: r)
    exact (List.Perm.swap x r[j] _).trans ((erase_perm r j h').cons x)
theorem map_erase {α β : Type} (f : α → β) : ∀ (l : List α) (j : Nat), (l.map f).eraseIdx j = (l.eraseIdx j).map f
  | [], _ => rfl
  | x :: r, 0 => rfl
  | x :: r, j + 1 => by
    show f x :: (r.map f).eraseIdx j = f x :: (r.eraseIdx j).map f
    rw [map_erase f r j]
theorem dpInts {K : PySem.W.Frag} {H : Hp} : ∀ L : List Int, DpAll K H (L.map V.int) (L.map PyData.int)
  | [] => .nil
  | i :: L => .cons (.int i) (dpInts L)
theorem lay_ints : ∀ L : List Int, PyData.canLayAll0 (L.map PyData.int) = true
  | [] => rfl
  | i :: L => by
    rw [List.map_cons, PyData.canLayAll0, lay_ints L]
    rfl
theorem depth_ints : ∀ L : List Int, PyData.depthAll (L.map PyData.int) = 0
  | [] => rfl
  | i :: L => by
    rw [List.map_cons, PyData.depthAll, depth_ints L]
    rfl
theorem shaped_ints (L : List Int) : SeqAt.shaped (.list (L.map PyData.int)) = true := by
  unfold SeqAt.shaped
  rw [PyData.canLay0, lay_ints, PyData.depth, depth_ints]
  rfl
section
variable {P : Program} {w : World} {K : PySem.W.Frag} {mg : Str → Option Value} {base : Heap}
def spSplit : Sp := fun vs H Q _ => ∃ (b : Addr) (total many : Int) (n : Nat), vs = [.ref b, .int total, .int many] ∧ Box H b n ∧ n ≤ 900000 ∧ 1 ≤ many ∧ many ≤ 20 ∧ many ≤ total ∧ total ≤ 10 ^ 39 ∧
  ∀ p H' (ns : List Int), H p = none → (ns.length : Int) = many → (∀ x ∈ ns, 1 ≤ x ∧ x ≤ total) → Box H' b (n + 20) → SX b H H' → H' p = some (.lst (ns.map V.int)) → Q (.ref p) H'
theorem ok_split {f fT : Addr} {fd fdT : FuncData} {k : Nat} (F : Fun K "_law_split" "_law_split" sSplit f fd)
    (FT : Fun K "_law_take" "_law_take" sTake fT fdT) (bT : Binds K fdT ["_law_box_here", "_law_many"] []) (gT : mg "_law_take" = some (.ref fT)) (mR : mg "range" = none) :
    FnOk P w K mg base CX0 (k + 2) f fd ["_law_box_here", "_law_total", "_law_many"] spSplit := by
  have GT : FnOk P w K mg base CX0 (k + 1) fT fdT ["_law_box_here", "_law_many"] spTake := ok_take FT
  refine F.ok scSplit (fun vs H Q E h => ?_) (fun cdv A outer s H vs Q E hr h => ?_)
  · obtain ⟨b, total, many, n, rfl, _⟩ := h
    rfl
  · obtain ⟨b, total, many, n, rfl, hB, hn, m1, m2, m3, m4, q⟩ := h
    refine ⟨_, pss_cons (ps_par (i := 3) (j := 4) rfl scSplit.nd rfl rfl (by decide) rfl rfl (pa_cons (pe_op op_sub (pv 1) (pv 2)) (pa_cons (pe_lst pa_nil) pa_nil)) (by rfl))
      (pss_cons (ps_for PassesOwn.never rfl (pi_range1 rfl mR (pa_cons (pe_op op_sub (pv 2) pe_int) pa_nil)) (pg_name (i := 5) scSplit.nd rfl (.inl rfl))
        (pss_cons (ps_set (i := 6) scSplit.nd rfl (.inl rfl) (pe_call GT hr (by rfl) gT FT.kp bT .nil pass0 (pa_cons (pv 0) (pa_cons (pe_op op_add (pv 3) pe_int) pa_nil))))
        (pss_cons (ps_set (i := 3) scSplit.nd rfl (.inl rfl) (pe_op op_sub (pv 3) (pv 6)))
        (pss_one (ps_expr (pe_bm PySem.F.plainAttrs_list PySem.F.slot_list_append PySem.F.type_list_append mt_append (pv 4) (pa_cons (pe_op op_add pe_int (pv 6)) pa_nil)))))))
      (pss_one (ps_ret (pe_op op_cat (pv 4) (pe_lst (pa_cons (pe_op op_add pe_int (pv 3)) pa_nil)))))), ?_⟩
    refine ⟨_, rfl, _, rfl, total, many, rfl, rfl, by show 0 ≤ sizeLine; decide, fun fo nfo => ⟨_, _, rfl, ?_⟩⟩
    obtain ⟨bo, bz⟩ := hB.get
    have nbf : b ≠ fo := ne_of_none bz nfo
    refine ⟨_, rfl, many, 1, rfl, rfl, many - 1, rfl, by omega, by omega, ?_⟩
    refine for_range (lo := 0) (n := (many - 1).toNat) (fun i σ H' => ∃ y5 y6, ∃ left : Int, ∃ ns : List Int, σ = [some (.ref b), some (.int total), some (.int many), some (.int left), some (.ref fo), y5, y6] ∧ 0 ≤ left ∧ left ≤ total - many ∧ ns.length = i ∧ (∀ x ∈ ns, 1 ≤ x ∧ x ≤ total) ∧ SX b H H' ∧ Box H' b (n + i) ∧ H' fo = some (.lst (ns.map V.int))) ?_ ?_ ?_
    · exact ⟨none, none, total - many, [], rfl, by omega, by omega, rfl, fun x hx => absurd hx List.not_mem_nil, .of_same (same_upd nfo), hB.set nbf, upd_same⟩
    · rintro i σ H' hi ⟨y5, y6, left, ns, rfl, l0, l1, hl, hx, x', hB', ef⟩
      refine ⟨_, rfl, _, rfl, left, 1, rfl, rfl, b, left + 1, n + i, rfl, hB', by omega, by omega, by omega, fun r H'' r0 r1 hB'' k'' => ?_⟩
      refine ⟨_, rfl, _, rfl, left, r, rfl, rfl, ?_⟩
      refine ⟨_, rfl, .inl ⟨rfl, _, SqL.of (by rw [k'' fo nbf.symm]; exact ef)⟩, _, rfl, 1, r, rfl, rfl, fo, _, _, rfl, rfl, (by rw [k'' fo nbf.symm]; exact ef), ?_, ?_⟩
      · rw [List.length_map, hl]
        exact small1000 (by omega)
      · refine ⟨_, _, left - r, ns ++ [1 + r], rfl, by omega, by omega, by rw [List.length_append, hl]; rfl, ?_, ((x'.trans (.of_eq k'')).set nfo), hB''.set nbf, ?_⟩
        · intro y hy
          rcases List.mem_append.mp hy with hy | hy
          · exact hx y hy
          · rw [List.mem_singleton.mp hy]; omega
        · rw [upd_same, List.map_append]; rfl
    · rintro σ H' ⟨y5, y6, left, ns, rfl, l0, l1, hl, hx, x', hB', ef⟩
      refine ⟨_, rfl, _, rfl, 1, left, rfl, rfl, by show 1 ≤ sizeLine; decide, fun l2 n2 => ?_⟩
      refine ⟨fo, l2, _, _, rfl, rfl, same_upd n2 _ _ ef, upd_same, by rw [List.length_map]; show ns.length + 1 ≤ sizeLine; rw [sizeLine_eq]; omega, fun p np => ?_⟩
      have x2 : SX b H (upd H' l2 (.lst [.int (1 + left)])) := x'.new n2
      have hB2 : Box (upd H' l2 (.lst [.int (1 + left)])) b (n + (many - 1).toNat) := hB'.new n2
      refine q p _ (ns ++ [1 + left]) (x2.free hB2 np) (by rw [List.length_append, hl]; show ((_ + 1 : Nat) : Int) = _; omega) ?_ ((hB2.new np).le (by omega)) (x2.new np) ?_
      · intro y hy
        rcases List.mem_append.mp hy with hy | hy
        · exact hx y hy
        · rw [List.mem_singleton.mp hy]; omega
      · rw [upd_same, List.map_append]; rfl

def spPlaces : Sp := fun vs H Q _ => ∃ (b pa : Addr) (ns : List Int) (k : Int) (n : Nat), vs = [.ref b, .ref pa, .int k] ∧ Box H b n ∧ n ≤ 900000 ∧ (H pa = some (.lst (ns.map V.int)) ∨ H pa = some (.tup (ns.map V.int))) ∧ 0 ≤ k ∧ k ≤ 10 ∧ ns.length ≤ 30 ∧
  ∀ p H' (ms : List Int), H p = none → ms.Perm (ns ++ List.replicate k.toNat 0) → Box H' b (n + 45) → SX b H H' → H' p = some (.tup (ms.map V.int)) → Q (.ref p) H'
theorem ok_places {f fT : Addr} {fd fdT : FuncData} {k : Nat} (F : Fun K "_law_places" "_law_places" sPlaces f fd)
    (FT : Fun K "_law_take" "_law_take" sTake fT fdT) (bT : Binds K fdT ["_law_box_here", "_law_many"] []) (gT : mg "_law_take" = some (.ref fT)) (ml : mg "len" = none) (mL : mg "list" = none) (mT : mg "tuple" = none) :
    FnOk P w K mg base CX0 (k + 2) f fd ["_law_box_here", "_law_amounts", "_law_nothing"] spPlaces := by
  have GT : FnOk P w K mg base CX0 (k + 1) fT fdT ["_law_box_here", "_law_many"] spTake := ok_take FT
  refine F.ok scPlaces (fun vs H Q E h => ?_) (fun cdv A outer s H vs Q E hr h => ?_)
  · obtain ⟨b, pa, ns, k, n, rfl, _⟩ := h
    rfl
  · obtain ⟨b, pa, ns, kk, n, rfl, hB, hn, epa, k0, k1, hl, q⟩ := h
    refine ⟨_, pss_cons (ps_par (i := 3) (j := 4) rfl scPlaces.nd rfl rfl (by decide) rfl rfl (pa_cons (pe_op op_cat (pe_callTy call_list_of (by rfl) mL (by decide +kernel) (pa_cons (pv 1) pa_nil)) (pe_op op_rep (pe_lst (pa_cons pe_int pa_nil)) (pv 2))) (pa_cons (pe_lst pa_nil) pa_nil)) (by rfl))
      (pss_cons (ps_while PassesOwn.never (pt_cmpR (op_neD hr.units) (pv 3) (pe_lst pa_nil) (nomark _))
        (pss_one (ps_expr (pe_bm PySem.F.plainAttrs_list PySem.F.slot_list_append PySem.F.type_list_append mt_append (pv 4) (pa_cons
          (pe_bm PySem.F.plainAttrs_list PySem.F.slot_list_pop PySem.F.type_list_pop mt_popAt (pv 3) (pa_cons (pe_call GT hr (by rfl) gT FT.kp bT .nil pass0 (pa_cons (pv 0) (pa_cons (pe_callB call_len_seq (by rfl) ml PySem.boot_len (pa_cons (pv 3) pa_nil)) pa_nil))) pa_nil)) pa_nil)))))
      (pss_one (ps_ret (pe_callTy call_tuple_of (by rfl) mT (by decide +kernel) (pa_cons (pv 4) pa_nil))))), ?_⟩
    obtain ⟨bo, bz⟩ := hB.get
    refine ⟨_, rfl, pa, ns.map V.int, rfl, epa.elim (fun e => .inl (SqL.of e)) (fun e => .inr (SqT.of e)), fun l1 n1 => ?_⟩
    have s1 : Same H (upd H l1 (.lst (ns.map V.int))) := same_upd n1
    have g1 : upd H l1 (.lst (ns.map V.int)) l1 = some (.lst (ns.map V.int)) := upd_same
    generalize upd H l1 (HO.lst (ns.map V.int)) = H1 at s1 g1 ⊢
    refine ⟨by show 1 ≤ sizeLine; decide, fun l2 n2 => ?_⟩
    have s2 : Same H1 (upd H1 l2 (.lst [.int 0])) := same_upd n2
    refine ⟨_, rfl, l2, kk, [.int 0], rfl, rfl, upd_same, by omega, by omega, by show 1 * kk.toNat ≤ sizeLine; rw [sizeLine_eq]; omega, fun l3 n3 => ?_⟩
    have er : (List.replicate kk.toNat [V.int 0]).flatten = (List.replicate kk.toNat (0 : Int)).map V.int := by
      induction kk.toNat with
      | zero => rfl
      | succ m ih => rw [List.replicate_succ, List.flatten_cons, ih, List.replicate_succ]; rfl
    rw [er]
    have s3 : Same (upd H1 l2 (.lst [.int 0])) (upd (upd H1 l2 (.lst [.int 0])) l3 (.lst ((List.replicate kk.toNat (0 : Int)).map V.int))) := same_upd n3
    have g3 : upd (upd H1 l2 (.lst [.int 0])) l3 (.lst ((List.replicate kk.toNat (0 : Int)).map V.int)) l3 = some (.lst ((List.replicate kk.toNat (0 : Int)).map V.int)) := upd_same
    have S3 := s1.trans (s2.trans s3)
    have g13 := s3 _ _ (s2 _ _ g1)
    generalize upd (upd H1 l2 (.lst [.int 0])) l3 (.lst ((List.replicate kk.toNat (0 : Int)).map V.int)) = H3 at s3 g3 S3 g13 ⊢
    refine ⟨l1, l3, _, _, rfl, rfl, g13, g3, by rw [List.length_map, List.length_map, List.length_replicate, sizeLine_eq]; omega, fun l nl => ?_⟩
    rw [← List.map_append]
    have s4 : Same H3 (upd H3 l (.lst ((ns ++ List.replicate kk.toNat 0).map V.int))) := same_upd nl
    have g4 : upd H3 l (.lst ((ns ++ List.replicate kk.toNat 0).map V.int)) l = some (.lst ((ns ++ List.replicate kk.toNat 0).map V.int)) := upd_same
    have fl : H l = none := S3.free nl
    generalize upd H3 l (.lst ((ns ++ List.replicate kk.toNat 0).map V.int)) = H4 at s4 g4 ⊢
    have S4 := S3.trans s4
    refine ⟨by show 0 ≤ sizeLine; decide, fun fo nfo => ⟨_, _, rfl, ?_⟩⟩
    have ffo : H fo = none := S4.free nfo
    have nlf : l ≠ fo := ne_of_none g4 nfo
    have nbl : b ≠ l := ne_of_none bz fl
    have nbf : b ≠ fo := ne_of_none bz ffo
    have hB5 : Box (upd H4 fo (.lst [])) b n := by
      have := s4.trans (same_upd nfo (o := .lst []))
      have e5 := (S3.trans this) _ _ bz
      exact hB.at (by rw [e5, bz])
    have tot : (ns ++ List.replicate kk.toNat 0).length ≤ 40 := by rw [List.length_append, List.length_replicate]; omega
    generalize hall : ns ++ List.replicate kk.toNat 0 = all at g4 tot q
    refine while_by (fun σ H' => ∃ ls ms : List Int, σ = [some (.ref b), some (.ref pa), some (.int kk), some (.ref l), some (.ref fo)] ∧ (ls ++ ms).Perm all ∧ SX b H H' ∧ Box H' b (n + ms.length) ∧ H' l = some (.lst (ls.map V.int)) ∧ H' fo = some (.lst (ms.map V.int)))
      (fun _ H' => match H' l with | some (.lst xs) => xs.length | _ => 0) ⟨all, [], rfl, by rw [List.append_nil], (SX.of_same S4).new nfo, hB5, by rw [upd_ne nlf]; exact g4, upd_same⟩ ?_ ?_
    · rintro σ H' ⟨ls, ms, rfl, pm, x', hB', el, ef⟩
      have hlen := pm.length_eq
      rw [List.length_append] at hlen
      refine ⟨.ref l, rfl, by show 0 ≤ sizeLine; decide, fun e ne => ?_⟩
      have se : Same H' (upd H' e (.lst [])) := same_upd ne
      have ge : upd H' e (.lst []) e = some (.lst []) := upd_same
      have xe : SX b H (upd H' e (.lst [])) := x'.new ne
      have hBe : Box (upd H' e (.lst [])) b (n + ms.length) := hB'.new ne
      generalize upd H' e (HO.lst []) = G at se ge xe hBe ⊢
      have elG := se _ _ el
      have efG := se _ _ ef
      refine ⟨.list (ls.map PyData.int), .list [], .lst (SqL.of elG) (dpInts ls), .lst (SqL.of ge) .nil, shaped_ints ls, rfl, _, rfl, ?_⟩
      cases ls with
      | nil =>
        refine iteF ?_
        refine ⟨.ref fo, rfl, fo, _, rfl, .inl ⟨SqL.of efG, fun p np => ?_⟩⟩
        refine q p _ ms (xe.free hBe np) pm ((hBe.new np).le ?_) (xe.new np) upd_same
        have : ms.length ≤ 40 := by
          rw [List.length_nil] at hlen
          omega
        omega
      | cons i0 lr =>
        refine iteT ?_
        refine ⟨.ref fo, rfl, .inl ⟨rfl, _, SqL.of efG⟩, .ref l, rfl, .inl ⟨rfl, _, SqL.of elG⟩, .ref b, rfl, .ref l, rfl, l, _, rfl, .inl (SqL.of elG), ?_⟩
        rw [List.length_map]
        refine ⟨b, (((i0 :: lr).length : Nat) : Int), n + ms.length, rfl, hBe, by omega, by rw [List.length_cons]; omega, by omega, fun r H2 r0 r1 hB2 k2 => ?_⟩
        obtain ⟨j, rfl⟩ : ∃ j : Nat, r = (j : Int) := ⟨r.toNat, by omega⟩
        have hj : j < (i0 :: lr).length := by omega
        have el2 : H2 l = some (.lst ((i0 :: lr).map V.int)) := by rw [k2 l nbl.symm]; exact elG
        have ef2 : H2 fo = some (.lst (ms.map V.int)) := by rw [k2 fo nbf.symm]; exact efG
        have x2 : SX b H H2 := xe.trans (.of_eq k2)
        have hix : seqIndex? (j : Int) ((i0 :: lr).map V.int).length = some j := by
          unfold seqIndex?
          rw [List.length_map, if_neg (show ¬ (j : Int) < 0 by omega)]
          show (if (decide (0 ≤ (j : Int)) && decide ((j : Int) < ((i0 :: lr).length : Nat))) = true then some (j : Int).toNat else none) = some j
          rw [decide_eq_true (show 0 ≤ (j : Int) by omega), decide_eq_true (show (j : Int) < ((i0 :: lr).length : Nat) by omega)]
          rfl
        refine ⟨l, _, (j : Int), j, .int (i0 :: lr)[j], rfl, rfl, el2, by omega, by omega, hix, by rw [List.getElem?_map, List.getElem?_eq_getElem hj]; rfl, ?_⟩
        refine ⟨fo, _, _, rfl, rfl, by rw [upd_ne nlf.symm]; exact ef2, by rw [List.length_map]; exact small1000 (by omega), ?_⟩
        refine ⟨⟨(i0 :: lr).eraseIdx j, ms ++ [(i0 :: lr)[j]], rfl, ?_, (x2.set fl).set ffo, ?_, ?_, ?_⟩, ?_⟩
        · refine List.Perm.trans ?_ pm
          have h1 : ((i0 :: lr)[j] :: (i0 :: lr).eraseIdx j).Perm (i0 :: lr) := erase_perm _ j hj
          have h2 : ((i0 :: lr).eraseIdx j ++ (ms ++ [(i0 :: lr)[j]])).Perm ((i0 :: lr)[j] :: ((i0 :: lr).eraseIdx j ++ ms)) := by
            rw [← List.append_assoc]
            exact List.perm_append_comm
          refine h2.trans ?_
          rw [← List.cons_append]
          exact h1.append_right ms
        · rw [List.length_append]
          exact ((hB2.set nbl).set nbf)
        · rw [upd_ne nlf, upd_same, map_erase]
        · rw [upd_same, List.map_append]; rfl
        · show (match upd (upd H2 l _) fo _ l with | some (.lst xs) => xs.length | _ => 0) < (match H' l with | some (.lst xs) => xs.length | _ => 0)
          rw [upd_ne nlf, upd_same, el]
          show (((i0 :: lr).map V.int).eraseIdx j).length < ((i0 :: lr).map V.int).length
          rw [List.length_eraseIdx_of_lt (by rw [List.length_map]; exact hj), List.length_map, List.length_cons]
          omega
    · rintro σ H' Q1 Q2 hq ⟨x, e1, hz, h⟩
      refine ⟨x, e1, hz, fun p np => ?_⟩
      obtain ⟨d, e, a1, a2, a3, a4, z, a5, a6⟩ := h p np
      exact ⟨d, e, a1, a2, a3, a4, z, a5, hq _ _ a6⟩
end
end K84

/-! MG: clauses, zip of tuples in comprehensions, == of rows and of texts -/
namespace MG
open PySem PySem.Spec PyProof.Rows L2
theorem walk_zipT {K : PySem.W.Frag} {a b : Addr} {xs ys : List V} {n : Nat} (hn : n = min xs.length ys.length) :
    Walk (RZ.ItzT K a b) n (fun H => SqT K H a xs ∧ SqT K H b ys) (YPair (fun i => xs[i]?) (fun i => ys[i]?)) := by
  subst hn
  refine ⟨fun i _ hi q => ?_, fun _ q => ⟨xs, ys, q.1, q.2, by omega⟩, fun i H v H' _ q y => ?_⟩
  · have h1 : i < xs.length := by omega
    have h2 : i < ys.length := by omega
    exact ⟨xs, ys, xs[i], ys[i], q.1, q.2, by simp [h1], by simp [h2]⟩
  · obtain ⟨T, x, z, h1, h2, h3, h4, h5⟩ := y
    exact ⟨T, x, z, h1, h2, h3, h4 xs q.1, h5 ys q.2⟩
theorem eqvAll_ints : ∀ a b : List Int, PyData.eqvAll (a.map PyData.int) (b.map PyData.int) = decide (a = b)
  | [], [] => rfl
  | [], _ :: _ => rfl
  | _ :: _, [] => rfl
  | x :: a, y :: b => by
    rw [List.map_cons, List.map_cons, PyData.eqvAll, eqvAll_ints a b]
    show ((x == y) && _) = _
    by_cases h : x = y
    · subst h
      rw [show (x == x) = true from beq_self_eq_true x, Bool.true_and]
      by_cases h2 : a = b
      · rw [h2]; simp
      · rw [decide_eq_false h2, decide_eq_false (fun z => h2 (List.cons.inj z).2)]
    · rw [show (x == y) = false from beq_eq_false_iff_ne.mpr h, decide_eq_false (fun z => h (List.cons.inj z).1)]; rfl
theorem eqv_rows (a b : List Int) : PyData.eqv (.tuple (a.map PyData.int)) (.tuple (b.map PyData.int)) = decide (a = b) := by
  rw [PyData.eqv, eqvAll_ints]
theorem eqvAll_strs : ∀ a b : List Str, PyData.eqvAll (a.map PyData.str) (b.map PyData.str) = decide (a = b)
  | [], [] => rfl
  | [], _ :: _ => rfl
  | _ :: _, [] => rfl
  | x :: a, y :: b => by
    rw [List.map_cons, List.map_cons, PyData.eqvAll, eqvAll_strs a b]
    show ((x == y) && _) = _
    by_cases h : x = y
    · subst h
      rw [show (x == x) = true from beq_self_eq_true x, Bool.true_and]
      by_cases h2 : a = b
      · rw [h2]; simp
      · rw [decide_eq_false h2, decide_eq_false (fun z => h2 (List.cons.inj z).2)]
    · rw [show (x == y) = false from beq_eq_false_iff_ne.mpr h, decide_eq_false (fun z => h (List.cons.inj z).1)]; rfl
theorem eqv_strs (a b : List Str) : PyData.eqv (.tuple (a.map PyData.str)) (.tuple (b.map PyData.str)) = decide (a = b) := by
  rw [PyData.eqv, eqvAll_strs]
theorem dpIntsG {K : PySem.W.Frag} {H : Hp} : ∀ L : List Int, DpAll K H (L.map V.int) (L.map PyData.int)
  | [] => .nil
  | i :: L => .cons (.int i) (dpIntsG L)
theorem dpStrsG {K : PySem.W.Frag} {H : Hp} : ∀ L : List Str, DpAll K H (L.map V.str) (L.map PyData.str)
  | [] => .nil
  | i :: L => .cons (.str i) (dpStrsG L)
theorem lay_intsG : ∀ L : List Int, PyData.canLayAll0 (L.map PyData.int) = true
  | [] => rfl
  | i :: L => by rw [List.map_cons, PyData.canLayAll0, lay_intsG L]; rfl
theorem lay_strsG : ∀ L : List Str, (∀ x ∈ L, PyData.canLay0 (.str x) = true) → PyData.canLayAll0 (L.map PyData.str) = true
  | [], _ => rfl
  | i :: L, h => by rw [List.map_cons, PyData.canLayAll0, lay_strsG L fun x hx => h x (List.mem_cons_of_mem _ hx), h i List.mem_cons_self]; rfl
theorem depth_intsG : ∀ L : List Int, PyData.depthAll (L.map PyData.int) = 0
  | [] => rfl
  | i :: L => by rw [List.map_cons, PyData.depthAll, depth_intsG L]; rfl
theorem depth_strsG : ∀ L : List Str, PyData.depthAll (L.map PyData.str) = 0
  | [] => rfl
  | i :: L => by rw [List.map_cons, PyData.depthAll, depth_strsG L]; rfl
theorem shapedT_ints (L : List Int) : SeqAt.shaped (.tuple (L.map PyData.int)) = true := by
  unfold SeqAt.shaped
  rw [PyData.canLay0, lay_intsG, PyData.depth, depth_intsG]
  rfl
theorem shapedT_strs (L : List Str) (h : ∀ x ∈ L, PyData.canLay0 (.str x) = true) : SeqAt.shaped (.tuple (L.map PyData.str)) = true := by
  unfold SeqAt.shaped
  rw [PyData.canLay0, lay_strsG L h, PyData.depth, depth_strsG]
  rfl
/-! ### those who have something -/
def hold (ns : List Int) (i : Nat) : List Int := ((List.range i).filter fun j => decide (0 < ns.getD j 0)).map fun (j : Nat) => (j : Int)
theorem hold_succ (ns : List Int) (i : Nat) : hold ns (i + 1) = hold ns i ++ (if 0 < ns.getD i 0 then [(i : Int)] else []) := by
  unfold hold
  rw [List.range_succ, List.filter_append, List.map_append]
  congr 1
  by_cases h : 0 < ns.getD i 0
  · rw [if_pos h, List.filter_cons_of_pos (by simpa using h)]; rfl
  · rw [if_neg h, List.filter_cons_of_neg (by simpa using h)]; rfl
theorem hold_len (ns : List Int) (i : Nat) : (hold ns i).length ≤ i := by
  unfold hold
  rw [List.length_map]
  exact Nat.le_trans (List.length_filter_le _ _) (by rw [List.length_range]; exact Nat.le_refl _)
theorem hold_count (ns : List Int) : ∀ i, i ≤ ns.length → (hold ns i).length = ((ns.take i).filter fun n => decide (0 < n)).length
  | 0, _ => by rw [List.take_zero]; rfl
  | i + 1, h => by
    have hi : i < ns.length := h
    rw [hold_succ, List.length_append, hold_count ns i (by omega), List.take_add_one, List.getElem?_eq_getElem hi, List.filter_append, List.length_append]
    congr 1
    have e : ns.getD i 0 = ns[i] := by rw [List.getD_eq_getElem?_getD, List.getElem?_eq_getElem hi]; rfl
    rw [e]
    show _ = (List.filter _ [ns[i]]).length
    by_cases z : 0 < ns[i]
    · rw [if_pos z, List.filter_cons_of_pos (by simpa using z)]; rfl
    · rw [if_neg z, List.filter_cons_of_neg (by simpa using z)]; rfl
theorem hold_all (ns : List Int) : (hold ns ns.length).length = (ns.filter fun n => decide (0 < n)).length := by
  rw [hold_count ns _ (Nat.le_refl _), List.take_length]
/-! ### the clauses -/
def hfn (r o : List Int) : Bool := (r.zip o).any fun p => decide (p.1 = 0) && decide (p.2 > 0)
def ms (r : List Int) : Int := (gl r : Nat) / 2 ^ v2 (gl r)
def od (r : List Int) : Nat := (fewT (v2 (gl r)) r).length
def asked (r o : List Int) : List (Str × Bool) :=
  [("sum", decide (o.sum ≠ r.sum)), ("nothing", hfn r o), ("measure", decide (ms o ≠ ms r)), ("twos", decide (v2 (gl o) < v2 (gl r))),
   ("odd ones", decide (v2 (gl o) = v2 (gl r)) && decide (od r < od o)), ("doubled", decide (v2 (gl o) = v2 (gl r)) && decide (od o = (hold o o.length).length))]
def clausesOf (r o : List Int) : List Str := ((asked r o).filter fun p => p.2).map fun p => p.1
def brkT (r o : List Int) : List Str := if r = o then [] else if r.length ≠ o.length then ["places"] else clausesOf r o
def PairsAt (H : Hp) (ts : List Addr) (cs : List (Str × Bool)) : Prop := ts.length = cs.length ∧ ∀ (i : Nat) (t : Addr) (c : Str × Bool), ts[i]? = some t → cs[i]? = some c → H t = some (.tup [.str c.1, .bl c.2])
theorem PairsAt.same {H H' : Hp} {ts : List Addr} {cs : List (Str × Bool)} (h : PairsAt H ts cs) (s : Same H H') : PairsAt H' ts cs := ⟨h.1, fun i t c a b => s _ _ (h.2 i t c a b)⟩
theorem PairsAt.nil {H : Hp} : PairsAt H [] [] := ⟨rfl, fun i t c h => by cases h⟩
theorem PairsAt.cons {H : Hp} {t : Addr} {c : Str × Bool} {ts : List Addr} {cs : List (Str × Bool)} (e : H t = some (.tup [.str c.1, .bl c.2])) (h : PairsAt H ts cs) : PairsAt H (t :: ts) (c :: cs) := by
  refine ⟨by rw [List.length_cons, List.length_cons, h.1], fun i t' c' h1 h2 => ?_⟩
  cases i with
  | zero => cases h1; cases h2; exact e
  | succ i => exact h.2 i t' c' h1 h2
end MG

/-! MG: comprehensions of two clauses over tuples; deeds -/
namespace MG
open PySem PySem.Spec PyProof.Rows L2
/-- over a tuple place by place: Do goes on to what is wanted ahead of the next place -/
theorem by_place {K : PySem.W.Frag} {a : Addr} {xs : List V} {Do : (Hp → Prop) → V → Hp → Prop} {H0 : Hp} {Q : Hp → Prop} (Pv : Nat → Hp → Prop) (h0 : Pv 0 H0)
    (hl : ∀ i H, i ≤ xs.length → Pv i H → SqT K H a xs) (hs : ∀ i x H, xs[i]? = some x → Pv i H → Do (Pv (i + 1)) x H) (hd : ∀ H, Pv xs.length H → Q H) :
    ∃ W : Nat → Nat → Hp → Prop, (∃ m, W 0 m H0) ∧ ∀ i m H, W i m H → ((Itt K a).stop i H ∧ Q H) ∨
      ((Itt K a).go i H ∧ ∃ N : Hp → Prop, (∀ H', N H' → ∃ m', m' < m ∧ W (i + 1) m' H') ∧ ∀ x H', (Itt K a).yld i H x H' → Do N x H') := by
  refine ⟨fun i m H => i + m = xs.length ∧ Pv i H, ⟨xs.length, Nat.zero_add _, h0⟩, fun i m H h => ?_⟩
  match m, h with
  | 0, ⟨e, p⟩ =>
    rw [Nat.add_zero] at e
    exact .inl ⟨⟨xs, hl i H (Nat.le_of_eq e) p, Nat.le_of_eq e.symm⟩, hd H (by rw [← e]; exact p)⟩
  | m + 1, ⟨e, p⟩ =>
    have lt : i < xs.length := by omega
    have at_ := hl i H (Nat.le_of_lt lt) p
    refine .inr ⟨⟨xs, xs[i], at_, List.getElem?_eq_getElem lt⟩, Pv (i + 1), fun H' p' => ⟨m, Nat.lt_succ_self m, by omega, p'⟩, ?_⟩
    rintro x H' ⟨rfl, tells⟩
    exact hs i x H' (tells xs at_) p
theorem lc2_tup {K : PySem.W.Frag} {a : Addr} {xs : List V} {g g1 : TG} {tt tt1 : TT} {wi1 : TI} {te : TE} {vs vs1 : List Nat} {σ : L2.St} {H1 : Hp} {D : Addr} {Qd : Hp → Prop} (Pv : Nat → Hp → Prop) (h0 : Pv 0 (upd H1 D (.lst [])))
    (hl : ∀ i H, i ≤ xs.length → Pv i H → SqT K H a xs)
    (hs : ∀ i x H, xs[i]? = some x → Pv i H → g x (wipe σ vs) H fun σ2 H2 => wipe σ2 vs = wipe σ vs ∧ tt σ2 H2 fun b H3 =>
      if b = true then wi1 σ2 H3 fun J1 H4 => ∃ W1 : Nat → Nat → Hp → Prop, (∃ m, W1 0 m H4) ∧ ∀ j k H, W1 j k H →
        (J1.stop j H ∧ Pv (i + 1) H) ∨ (J1.go j H ∧ ∃ Nx1 : Hp → Prop, (∀ H', Nx1 H' → ∃ k', k' < k ∧ W1 (j + 1) k' H') ∧ ∀ x H', J1.yld j H x H' → g1 x (wipe σ2 vs1) H' fun σ3 H5 => wipe σ3 vs1 = wipe σ2 vs1 ∧ tt1 σ3 H5 fun b H6 =>
          if b = true then te σ3 H6 fun y H7 => ∃ acc, H7 D = some (.lst acc) ∧ acc.length < sizeLine ∧ Nx1 (upd H7 D (.lst (acc ++ [y]))) else Nx1 H6)
      else Pv (i + 1) H3) (hd : ∀ H, Pv xs.length H → Qd H) :
    ∃ W : Nat → Nat → Hp → Prop, (∃ m, W 0 m (upd H1 D (.lst []))) ∧ ∀ i m H, W i m H →
      ((Itt K a).stop i H ∧ Qd H) ∨ ((Itt K a).go i H ∧ ∃ Nx : Hp → Prop, (∀ H', Nx H' → ∃ m', m' < m ∧ W (i + 1) m' H') ∧ ∀ x H', (Itt K a).yld i H x H' → g x (wipe σ vs) H' fun σ2 H2 => wipe σ2 vs = wipe σ vs ∧ tt σ2 H2 fun b H3 =>
        if b = true then wi1 σ2 H3 fun J1 H4 => ∃ W1 : Nat → Nat → Hp → Prop, (∃ m, W1 0 m H4) ∧ ∀ j k H, W1 j k H →
          (J1.stop j H ∧ Nx H) ∨ (J1.go j H ∧ ∃ Nx1 : Hp → Prop, (∀ H', Nx1 H' → ∃ k', k' < k ∧ W1 (j + 1) k' H') ∧ ∀ x H', J1.yld j H x H' → g1 x (wipe σ2 vs1) H' fun σ3 H5 => wipe σ3 vs1 = wipe σ2 vs1 ∧ tt1 σ3 H5 fun b H6 =>
            if b = true then te σ3 H6 fun y H7 => ∃ acc, H7 D = some (.lst acc) ∧ acc.length < sizeLine ∧ Nx1 (upd H7 D (.lst (acc ++ [y]))) else Nx1 H6)
        else Nx H3) := by
  exact by_place Pv h0 hl hs hd
theorem in_tup {K : PySem.W.Frag} {a : Addr} {xs : List V} {g1 : TG} {tt1 : TT} {te : TE} {vs1 : List Nat} {σ2 : L2.St} {H4 : Hp} {D : Addr} {Nx : Hp → Prop} (Pv : Nat → Hp → Prop) (h0 : Pv 0 H4)
    (hl : ∀ i H, i ≤ xs.length → Pv i H → SqT K H a xs)
    (hs : ∀ j x H, xs[j]? = some x → Pv j H → g1 x (wipe σ2 vs1) H fun σ3 H5 => wipe σ3 vs1 = wipe σ2 vs1 ∧ tt1 σ3 H5 fun b H6 =>
      if b = true then te σ3 H6 fun y H7 => ∃ acc, H7 D = some (.lst acc) ∧ acc.length < sizeLine ∧ Pv (j + 1) (upd H7 D (.lst (acc ++ [y]))) else Pv (j + 1) H6) (hd : ∀ H, Pv xs.length H → Nx H) :
    ∃ W1 : Nat → Nat → Hp → Prop, (∃ m, W1 0 m H4) ∧ ∀ j k H, W1 j k H →
      ((Itt K a).stop j H ∧ Nx H) ∨ ((Itt K a).go j H ∧ ∃ Nx1 : Hp → Prop, (∀ H', Nx1 H' → ∃ k', k' < k ∧ W1 (j + 1) k' H') ∧ ∀ x H', (Itt K a).yld j H x H' → g1 x (wipe σ2 vs1) H' fun σ3 H5 => wipe σ3 vs1 = wipe σ2 vs1 ∧ tt1 σ3 H5 fun b H6 =>
        if b = true then te σ3 H6 fun y H7 => ∃ acc, H7 D = some (.lst acc) ∧ acc.length < sizeLine ∧ Nx1 (upd H7 D (.lst (acc ++ [y]))) else Nx1 H6) := by
  exact by_place Pv h0 hl hs hd
/-! ### a deed -/
def deed (r : List Int) (i j : Nat) : List Int := (r.set i (r.getD i 0 - r.getD j 0)).set j (2 * r.getD j 0)
structure MayG (r : List Int) (i j : Nat) : Prop where
  hi : i < r.length
  hj : j < r.length
  ne : i ≠ j
  pj : 0 < r.getD j 0
  ge : r.getD j 0 ≤ r.getD i 0
theorem getD_eq {r : List Int} {i : Nat} (h : i < r.length) : r.getD i 0 = r[i] := by
  rw [List.getD_eq_getElem?_getD, List.getElem?_eq_getElem h]; rfl
theorem sum_setG : ∀ (l : List Int) (j : Nat) (h : j < l.length) (v : Int), (l.set j v).sum = l.sum - l[j] + v
  | x :: r, 0, _, v => by
    rw [List.set_cons_zero, List.sum_cons, List.sum_cons]
    show v + r.sum = x + r.sum - x + v
    omega
  | x :: r, j + 1, h, v => by
    have h' : j < r.length := by rw [List.length_cons] at h; omega
    rw [List.set_cons_succ, List.sum_cons, List.sum_cons, sum_setG r j h' v]
    show _ = x + r.sum - r[j] + v
    omega
theorem deed_len (r : List Int) (i j : Nat) : (deed r i j).length = r.length := by
  unfold deed
  rw [List.length_set, List.length_set]
/-- what is added up over a row, place by place -/
theorem sum_deed {r : List Int} {i j : Nat} (h : MayG r i j) (f : Int → Int) : ((deed r i j).map f).sum = (r.map f).sum - f r[i]! - f r[j]! + f (r[i]! - r[j]!) + f (2 * r[j]!) := by
  have hi := h.hi
  have hj := h.hj
  have ei : r[i]! = r[i] := by rw [List.getElem!_eq_getElem?_getD, List.getElem?_eq_getElem hi]; rfl
  have ej : r[j]! = r[j] := by rw [List.getElem!_eq_getElem?_getD, List.getElem?_eq_getElem hj]; rfl
  unfold deed
  rw [getD_eq hi, getD_eq hj, ei, ej, List.map_set, List.map_set]
  rw [sum_setG _ j (by rw [List.length_set, List.length_map]; exact hj), sum_setG _ i (by rw [List.length_map]; exact hi)]
  rw [List.getElem_set_ne h.ne, List.getElem_map, List.getElem_map]
  omega
theorem deed_sum {r : List Int} {i j : Nat} (h : MayG r i j) : (deed r i j).sum = r.sum := by
  have := sum_deed h id
  rw [List.map_id, List.map_id] at this
  simp only [id] at this
  omega
theorem deed_mem {r : List Int} {i j : Nat} (h : MayG r i j) {n : Int} (hn : n ∈ deed r i j) : n ∈ r ∨ n = r.getD i 0 - r.getD j 0 ∨ n = 2 * r.getD j 0 := by
  unfold deed at hn
  rcases List.mem_or_eq_of_mem_set hn with hn | hn
  · rcases List.mem_or_eq_of_mem_set hn with hn | hn
    · exact .inl hn
    · exact .inr (.inl hn)
  · exact .inr (.inr hn)
theorem deed_get {r : List Int} {i j : Nat} (h : MayG r i j) (p : Nat) : (deed r i j).getD p 0 = if p = j then 2 * r.getD j 0 else if p = i then r.getD i 0 - r.getD j 0 else r.getD p 0 := by
  have hi := h.hi
  have hj := h.hj
  unfold deed
  rw [List.getD_eq_getElem?_getD]
  by_cases e1 : p = j
  · subst e1
    rw [if_pos rfl, List.getElem?_set_self (by rw [List.length_set]; exact hj)]
    rfl
  · rw [if_neg e1, List.getElem?_set_ne (Ne.symm e1)]
    by_cases e2 : p = i
    · subst e2
      rw [if_pos rfl, List.getElem?_set_self hi]
      rfl
    · rw [if_neg e2, List.getElem?_set_ne (Ne.symm e2), ← List.getD_eq_getElem?_getD]
theorem gl_all {l : List Int} {d : Nat} (h : ∀ n ∈ l, d ∣ n.toNat) : d ∣ gl l := by
  induction l with
  | nil => exact Nat.dvd_zero _
  | cons x t ih =>
    rw [gl]
    exact Nat.dvd_gcd (h x List.mem_cons_self) (ih fun n hn => h n (List.mem_cons_of_mem _ hn))
theorem getD_mem {r : List Int} {i : Nat} (h : i < r.length) : r.getD i 0 ∈ r := by
  rw [getD_eq h]; exact List.getElem_mem h
/-- the unit stays, or becomes twice as great -/
theorem deed_unit {r : List Int} {i j : Nat} (h : MayG r i j) (hn : ∀ n ∈ r, 0 ≤ n) : gl (deed r i j) = gl r ∨ gl (deed r i j) = 2 * gl r := by
  have hi := getD_mem h.hi
  have hj := getD_mem h.hj
  have pj := h.pj
  have ge := h.ge
  have g0 : 0 < gl r := gl_pos hj pj
  have up : gl r ∣ gl (deed r i j) := gl_all fun n hm => by
    rcases deed_mem h hm with hm | rfl | rfl
    · exact gl_dvd hm
    · rw [show (r.getD i 0 - r.getD j 0).toNat = (r.getD i 0).toNat - (r.getD j 0).toNat by omega]
      exact Nat.dvd_sub (gl_dvd hi) (gl_dvd hj)
    · rw [Int.toNat_mul (by decide) (by omega)]
      exact Nat.dvd_mul_left_of_dvd (gl_dvd hj) 2
  have m2 : 2 * r.getD j 0 ∈ deed r i j := by
    have := deed_get h j
    rw [if_pos rfl] at this
    rw [← this]
    exact getD_mem (by rw [deed_len]; exact h.hj)
  have m1 : r.getD i 0 - r.getD j 0 ∈ deed r i j := by
    have := deed_get h i
    rw [if_neg h.ne, if_pos rfl] at this
    rw [← this]
    exact getD_mem (by rw [deed_len]; exact h.hi)
  have down : gl (deed r i j) ∣ 2 * gl r := by
    have e : 2 * gl r = gl (r.map fun n => 2 * n) := (gl_mul 2 (by decide) hn).symm
    rw [e]
    refine gl_all fun n hm => ?_
    obtain ⟨x, hx, rfl⟩ := List.mem_map.mp hm
    obtain ⟨p, hp, rfl⟩ := List.getElem_of_mem hx
    have d2 : gl (deed r i j) ∣ 2 * (r.getD j 0).toNat := by
      have := gl_dvd m2
      rw [Int.toNat_mul (by decide) (by omega)] at this
      exact this
    have ex : ∀ x : Int, 0 ≤ x → (2 * x).toNat = 2 * x.toNat := fun x hx => by omega
    by_cases e1 : p = j
    · subst e1
      rw [ex _ (hn _ (List.getElem_mem hp)), ← getD_eq hp]
      exact d2
    · by_cases e2 : p = i
      · subst e2
        rw [ex _ (hn _ (List.getElem_mem hp)), ← getD_eq hp]
        have d1 := gl_dvd m1
        have e3 : 2 * (r.getD p 0).toNat = 2 * (r.getD p 0 - r.getD j 0).toNat + 2 * (r.getD j 0).toNat := by omega
        rw [e3]
        exact Nat.dvd_add (Nat.dvd_mul_left_of_dvd d1 2) d2
      · have := deed_get h p
        rw [if_neg e1, if_neg e2] at this
        have d3 : gl (deed r i j) ∣ (r.getD p 0).toNat := by
          rw [← this]
          exact gl_dvd (getD_mem (by rw [deed_len]; exact hp))
        rw [ex _ (hn _ (List.getElem_mem hp)), ← getD_eq hp]
        exact Nat.dvd_mul_left_of_dvd d3 2
  obtain ⟨c, hc⟩ := up
  rw [hc, Nat.mul_comm 2 (gl r)] at down
  have : c ∣ 2 := Nat.dvd_of_mul_dvd_mul_left g0 down
  have le2 := Nat.le_of_dvd (by decide) this
  rcases (show c = 0 ∨ c = 1 ∨ c = 2 by omega) with h0 | h1 | h2
  · rw [h0] at this
    exact absurd (Nat.eq_zero_of_zero_dvd this) (by decide)
  · left; rw [hc, h1, Nat.mul_one]
  · right; rw [hc, h2, Nat.mul_comm]
/-! ### counts as sums -/
def oddF (t : Nat) (n : Int) : Int := if n % 2 ^ (t + 1) = 0 then 0 else 1
def posF (n : Int) : Int := if 0 < n then 1 else 0
theorem oddF_iff (t : Nat) {n : Int} (h : 0 ≤ n) : (decide (n > 0) && decide (v2 n.toNat ≤ t)) = decide (oddF t n = 1) := by
  unfold oddF
  have e : n % 2 ^ (t + 1) = 0 ↔ 2 ^ (t + 1) ∣ n.toNat := by
    have e1 : n % 2 ^ (t + 1) = ((n.toNat % 2 ^ (t + 1) : Nat) : Int) := by
      rw [Int.natCast_emod, Int.toNat_of_nonneg h, Int.natCast_pow]; rfl
    rw [e1]
    constructor
    · intro z
      exact Nat.dvd_of_mod_eq_zero (by omega)
    · intro z
      rw [Nat.mod_eq_zero_of_dvd z]; rfl
  by_cases h0 : n > 0
  · rw [decide_eq_true h0, Bool.true_and]
    have k := pow_dvd_iff (n := n.toNat) (k := t + 1) (by omega)
    by_cases z : n % 2 ^ (t + 1) = 0
    · rw [if_pos z, decide_eq_false (by have := k.mp (e.mp z); omega)]; rfl
    · rw [if_neg z, decide_eq_true (Nat.le_of_not_lt fun y => z (e.mpr (k.mpr y)))]; rfl
  · have : n = 0 := by omega
    subst this
    rw [decide_eq_false h0, if_pos (Int.zero_emod _)]; rfl
theorem few_sum (t : Nat) : ∀ {l : List Int}, (∀ n ∈ l, 0 ≤ n) → ((fewT t l).length : Int) = (l.map (oddF t)).sum
  | [], _ => rfl
  | x :: l, h => by
    have ih := few_sum t (l := l) fun n hn => h n (List.mem_cons_of_mem _ hn)
    have k := oddF_iff t (h x List.mem_cons_self)
    have v : oddF t x = 0 ∨ oddF t x = 1 := by unfold oddF; split <;> simp
    rw [List.map_cons, List.sum_cons, ← ih]
    unfold fewT at ih ⊢
    rcases v with v | v
    · rw [List.filter_cons_of_neg (by rw [k, v]; decide), v]; omega
    · rw [List.filter_cons_of_pos (by rw [k, v]; decide), v, List.length_cons]; omega
theorem pos_sum : ∀ l : List Int, ((l.filter fun n => decide (0 < n)).length : Int) = (l.map posF).sum
  | [] => rfl
  | x :: l => by
    have ih := pos_sum l
    rw [List.map_cons, List.sum_cons, ← ih]
    unfold posF
    by_cases h : 0 < x
    · rw [List.filter_cons_of_pos (by simpa using h), if_pos h, List.length_cons]; omega
    · rw [List.filter_cons_of_neg (by simpa using h), if_neg h]; omega
theorem sum_le_of {f g : Int → Int} : ∀ {l : List Int}, (∀ n ∈ l, f n ≤ g n) → (l.map f).sum ≤ (l.map g).sum
  | [], _ => Int.le_refl _
  | x :: l, h => by
    have := sum_le_of (f := f) (g := g) (l := l) fun n hn => h n (List.mem_cons_of_mem _ hn)
    have := h x List.mem_cons_self
    rw [List.map_cons, List.map_cons, List.sum_cons, List.sum_cons]; omega
theorem sum_lt_of {f g : Int → Int} : ∀ {l : List Int}, (∀ n ∈ l, f n ≤ g n) → (∃ n ∈ l, f n < g n) → (l.map f).sum < (l.map g).sum
  | [], _, h => by obtain ⟨n, hn, _⟩ := h; cases hn
  | x :: l, h, ⟨n, hn, hlt⟩ => by
    rw [List.map_cons, List.map_cons, List.sum_cons, List.sum_cons]
    have hx := h x List.mem_cons_self
    have hl := sum_le_of (f := f) (g := g) (l := l) fun n hn => h n (List.mem_cons_of_mem _ hn)
    rcases List.mem_cons.mp hn with e | hn
    · subst e; omega
    · have := sum_lt_of (f := f) (g := g) (l := l) (fun n hn => h n (List.mem_cons_of_mem _ hn)) ⟨n, hn, hlt⟩
      omega
/-! ### what one deed or more leave -/
structure Lv (r o : List Int) : Prop where
  len : o.length = r.length
  sum : o.sum = r.sum
  noth : ∀ p, r.getD p 0 = 0 → o.getD p 0 = 0
  ms : MG.ms o = MG.ms r
  tw : v2 (gl r) ≤ v2 (gl o)
  od : v2 (gl o) = v2 (gl r) → MG.od o ≤ MG.od r
  dbl : v2 (gl o) = v2 (gl r) → MG.od o < (hold o o.length).length
  nn : ∀ n ∈ o, 0 ≤ n
theorem Lv.trans {r m o : List Int} (a : Lv r m) (b : Lv m o) : Lv r o := by
  refine ⟨b.len.trans a.len, b.sum.trans a.sum, fun p h => b.noth p (a.noth p h), b.ms.trans a.ms, Nat.le_trans a.tw b.tw, fun e => ?_, fun e => ?_, b.nn⟩
  · have h1 := a.tw
    have h2 := b.tw
    exact Nat.le_trans (b.od (by omega)) (a.od (by omega))
  · have h1 := a.tw
    have h2 := b.tw
    exact b.dbl (by omega)
theorem hfn_of {r o : List Int} (h : ∀ p, r.getD p 0 = 0 → o.getD p 0 = 0) : hfn r o = false := by
  unfold hfn
  rw [List.any_eq_false]
  rintro ⟨x, y⟩ hm
  obtain ⟨p, hp, e⟩ := List.getElem_of_mem hm
  rw [List.length_zip] at hp
  rw [List.getElem_zip] at e
  have e1 : r[p] = x := congrArg Prod.fst e
  have e2 : o[p] = y := congrArg Prod.snd e
  have := h p
  rw [getD_eq (by omega), getD_eq (by omega), e1, e2] at this
  intro z
  simp only [Bool.and_eq_true, decide_eq_true_eq] at z
  have := this z.1
  omega
theorem Lv.clauses {r o : List Int} (h : Lv r o) : MG.clausesOf r o = [] := by
  unfold MG.clausesOf asked
  rw [hfn_of h.noth, h.sum, h.ms]
  rw [decide_eq_false (show ¬ (r.sum ≠ r.sum) from fun z => z rfl), decide_eq_false (show ¬ (MG.ms r ≠ MG.ms r) from fun z => z rfl), decide_eq_false (show ¬ v2 (gl o) < v2 (gl r) by have := h.tw; omega)]
  by_cases e : v2 (gl o) = v2 (gl r)
  · have h1 := h.od e
    have h2 := h.dbl e
    rw [decide_eq_false (show ¬ MG.od r < MG.od o by omega), decide_eq_false (show ¬ MG.od o = (hold o o.length).length by omega), Bool.and_false]
    rfl
  · rw [decide_eq_false e]
    rfl
theorem Lv.brk {r o : List Int} (h : Lv r o) : brkT r o = [] := by
  unfold brkT
  split
  · rfl
  · rw [if_neg (by rw [h.len]; exact fun z => z rfl), h.clauses]
theorem ms_of {g g' : Nat} (h0 : 0 < g) (h : g' = g ∨ g' = 2 * g) : ((g' : Int) / 2 ^ v2 g' = (g : Int) / 2 ^ v2 g) ∧ v2 g ≤ v2 g' := by
  rcases h with rfl | rfl
  · exact ⟨rfl, Nat.le_refl _⟩
  · rw [v2_mul2 (by omega)]
    refine ⟨?_, by omega⟩
    have e1 : (((2 * g : Nat) : Int) / 2 ^ (v2 g + 1)) = ((2 * g / 2 ^ (v2 g + 1) : Nat) : Int) := by rw [Int.natCast_ediv, Int.natCast_pow]; rfl
    have e2 : ((g : Int) / 2 ^ v2 g) = ((g / 2 ^ v2 g : Nat) : Int) := by rw [Int.natCast_ediv, Int.natCast_pow]; rfl
    rw [e1, e2, Nat.pow_succ, Nat.mul_comm (2 ^ v2 g) 2, Nat.mul_div_mul_left _ _ (by decide)]
theorem deed_nn {r : List Int} {i j : Nat} (h : MayG r i j) (hn : ∀ n ∈ r, 0 ≤ n) : ∀ n ∈ deed r i j, 0 ≤ n := by
  intro n hm
  have := h.ge
  have := h.pj
  rcases deed_mem h hm with hm | rfl | rfl
  · exact hn n hm
  · omega
  · omega
theorem deed_lv {r : List Int} {i j : Nat} (h : MayG r i j) (hn : ∀ n ∈ r, 0 ≤ n) : Lv r (deed r i j) := by
  have g0 : 0 < gl r := gl_pos (getD_mem h.hj) h.pj
  have hu := deed_unit h hn
  have hnn := deed_nn h hn
  obtain ⟨m1, m2⟩ := ms_of g0 hu
  have m2j : 2 * r.getD j 0 ∈ deed r i j := by
    have := deed_get h j
    rw [if_pos rfl] at this
    rw [← this]
    exact getD_mem (by rw [deed_len]; exact h.hj)
  have hi := h.hi
  have hj := h.hj
  have ei : r[i]! = r.getD i 0 := by rw [List.getElem!_eq_getElem?_getD, List.getD_eq_getElem?_getD]; rfl
  have ej : r[j]! = r.getD j 0 := by rw [List.getElem!_eq_getElem?_getD, List.getD_eq_getElem?_getD]; rfl
  have dv : ∀ n ∈ r, (2 : Int) ^ v2 (gl r) ∣ n := fun n hm => by
    have h1 : 2 ^ v2 (gl r) ∣ n.toNat := Nat.dvd_trans (pow_v2_dvd _) (gl_dvd hm)
    have h2 := Int.natCast_dvd_natCast.mpr h1
    rw [Int.toNat_of_nonneg (hn n hm), Int.natCast_pow] at h2
    exact h2
  have f2 : ∀ t, t = v2 (gl r) → oddF t (2 * r.getD j 0) = 0 := fun t ht => by
    subst ht
    unfold oddF
    refine if_pos (Int.emod_eq_zero_of_dvd ?_)
    rw [Int.pow_succ, Int.mul_comm]
    exact Int.mul_dvd_mul (Int.dvd_refl 2) (dv _ (getD_mem hj))
  refine ⟨deed_len r i j, deed_sum h, fun p hp => ?_, m1, m2, fun e => ?_, fun e => ?_, hnn⟩
  · rw [deed_get h p]
    have := h.pj
    have := h.ge
    by_cases e1 : p = j
    · subst e1; omega
    · rw [if_neg e1]
      by_cases e2 : p = i
      · subst e2; omega
      · rw [if_neg e2]; exact hp
  · have h1 := few_sum (v2 (gl r)) hn
    have h2 := few_sum (v2 (gl (deed r i j))) hnn
    have h3 := sum_deed h (oddF (v2 (gl r)))
    rw [e] at h2
    rw [ei, ej, f2 _ rfl] at h3
    have key : oddF (v2 (gl r)) (r.getD i 0 - r.getD j 0) ≤ oddF (v2 (gl r)) (r.getD i 0) + oddF (v2 (gl r)) (r.getD j 0) := by
      unfold oddF
      by_cases za : r.getD i 0 % 2 ^ (v2 (gl r) + 1) = 0
      · by_cases zb : r.getD j 0 % 2 ^ (v2 (gl r) + 1) = 0
        · rw [if_pos za, if_pos zb, if_pos (by rw [Int.sub_emod, za, zb]; simp)]; decide
        · rw [if_pos za, if_neg zb]; split <;> decide
      · rw [if_neg za]; split <;> split <;> decide
    unfold MG.od
    rw [e]
    omega
  · have h2 := few_sum (v2 (gl (deed r i j))) hnn
    have h4 := pos_sum (deed r i j)
    have lt := sum_lt_of (f := oddF (v2 (gl r))) (g := posF) (l := deed r i j) (fun n hm => by
      have := hnn n hm
      unfold oddF posF
      by_cases z : n = 0
      · subst z; rw [Int.zero_emod]; decide
      · rw [if_pos (show 0 < n by omega)]; split <;> decide) ⟨_, m2j, by
      rw [f2 _ rfl]
      unfold posF
      rw [if_pos (by have := h.pj; omega)]; decide⟩
    rw [hold_all]
    unfold MG.od
    rw [e] at h2 ⊢
    omega
end MG

/-! MG: data of rows, of places and of deeds; lists of pairs in the heap -/
namespace MG
open PySem PySem.Spec PyProof.Rows L2
def wholeD : PyData → Bool
  | .int _ => true
  | _ => false
def hasD (ns : List Int) : PyData → Bool
  | .int p => decide (0 ≤ p) && (decide (p < ns.length) && decide (0 < ns.getD p.toNat 0))
  | _ => false
def twoD (ns : List Int) : PyData → PyData → Bool
  | .int p, .int q => hasD ns (.int p) && (hasD ns (.int q) && decide (p ≠ q))
  | _, _ => false
def giveD (ns : List Int) : PyData → PyData → Bool
  | .int p, .int q => twoD ns (.int p) (.int q) && decide (ns.getD q.toNat 0 ≤ ns.getD p.toNat 0)
  | _, _ => false
theorem hasD_eq (ns : List Int) (p : Int) : hasD ns (.int p) = (decide (0 ≤ p) && (decide (p < ns.length) && decide (0 < ns.getD p.toNat 0))) := rfl
theorem twoD_eq (ns : List Int) (p q : Int) : twoD ns (.int p) (.int q) = (hasD ns (.int p) && (hasD ns (.int q) && decide (p ≠ q))) := rfl
theorem giveD_eq (ns : List Int) (p q : Int) : giveD ns (.int p) (.int q) = (twoD ns (.int p) (.int q) && decide (ns.getD q.toNat 0 ≤ ns.getD p.toNat 0)) := rfl
theorem hasD_int {ns : List Int} {d : PyData} (h : hasD ns d = true) : ∃ p : Nat, d = .int p ∧ p < ns.length ∧ 0 < ns.getD p 0 := by
  cases d with
  | int p =>
    unfold hasD at h
    simp only [Bool.and_eq_true, decide_eq_true_eq] at h
    obtain ⟨h1, h2, h3⟩ := h
    refine ⟨p.toNat, by rw [Int.toNat_of_nonneg h1], by omega, h3⟩
  | _ => cases h
theorem hasD_of {ns : List Int} {p : Nat} (h : p < ns.length) (h0 : 0 < ns.getD p 0) : hasD ns (.int p) = true := by
  rw [hasD_eq, Int.toNat_natCast, decide_eq_true (show (0 : Int) ≤ p by omega), decide_eq_true (show (p : Int) < ns.length by omega), decide_eq_true h0]
  rfl
theorem twoD_int {ns : List Int} {d e : PyData} (h : twoD ns d e = true) : ∃ p q : Nat, d = .int p ∧ e = .int q ∧ p < ns.length ∧ q < ns.length ∧ 0 < ns.getD p 0 ∧ 0 < ns.getD q 0 ∧ p ≠ q := by
  unfold twoD at h
  split at h
  · rename_i p q
    simp only [Bool.and_eq_true, decide_eq_true_eq] at h
    obtain ⟨a1, a2, a3⟩ := h
    obtain ⟨p', e1, b1, c1⟩ := hasD_int a1
    obtain ⟨q', e2, b2, c2⟩ := hasD_int a2
    cases e1
    cases e2
    exact ⟨p', q', rfl, rfl, b1, b2, c1, c2, fun z => a3 (by rw [z])⟩
  · cases h
theorem giveD_may {ns : List Int} {d e : PyData} (h : giveD ns d e = true) : ∃ p q : Nat, d = .int p ∧ e = .int q ∧ MayG ns p q := by
  unfold giveD at h
  split at h
  · rename_i p q
    rw [Bool.and_eq_true] at h
    obtain ⟨p', q', e1, e2, h1, h2, h3, h4, h5⟩ := twoD_int h.1
    cases e1
    cases e2
    have := of_decide_eq_true h.2
    rw [Int.toNat_natCast, Int.toNat_natCast] at this
    exact ⟨p', q', rfl, rfl, h1, h2, h5, h4, this⟩
  · cases h
theorem giveD_of {ns : List Int} {p q : Nat} (h : MayG ns p q) : giveD ns (.int p) (.int q) = true := by
  have h1 := h.pj
  have h2 := h.ge
  rw [giveD_eq, twoD_eq, hasD_of h.hi (by omega), hasD_of h.hj h1, decide_eq_true (show (p : Int) ≠ q by have := h.ne; omega), Int.toNat_natCast, Int.toNat_natCast, decide_eq_true h2]
  rfl
theorem getD_at {ns : List Int} {p : Nat} (h : p < ns.length) : (ns.map V.int)[p]? = some (.int (ns.getD p 0)) := by
  rw [List.getElem?_map, List.getD_eq_getElem?_getD, List.getElem?_eq_getElem h]
  rfl
theorem ixN_nat {m j : Nat} (h : j < m) : ixN m (j : Int) = some j := by
  unfold ixN
  rw [if_pos (by omega), if_pos (by omega), Int.toNat_natCast]
theorem ixN_neg1 {m : Nat} (h : 1 ≤ m) : ixN m (-1) = some (m - 1) := by
  unfold ixN
  rw [if_neg (by decide), if_pos (by omega)]
  congr 1
  omega
theorem atI_neg1 {α : Type} {xs : List α} {v : α} (h : 1 ≤ xs.length) (e : xs[xs.length - 1]? = some v) : atI xs (-1) = some v := by
  unfold atI
  rw [ixN_neg1 h]
  exact e
/-! ### pairs in the heap -/
def prO (c : Int × Int) : Option HO := some (.tup [.int c.1, .int c.2])
def PrAt (H : Hp) (ts : List Addr) (cs : List (Int × Int)) : Prop := ts.map H = cs.map prO
theorem PrAt.nil {H : Hp} : PrAt H [] [] := rfl
theorem PrAt.len {H : Hp} {ts : List Addr} {cs : List (Int × Int)} (h : PrAt H ts cs) : ts.length = cs.length := by
  have := congrArg List.length h
  rw [List.length_map, List.length_map] at this
  exact this
theorem PrAt.get {H : Hp} {ts : List Addr} {cs : List (Int × Int)} (h : PrAt H ts cs) {k : Nat} {t : Addr} (e : ts[k]? = some t) : ∃ c, cs[k]? = some c ∧ H t = some (.tup [.int c.1, .int c.2]) := by
  have z : (ts.map H)[k]? = some (H t) := by rw [List.getElem?_map, e]; rfl
  rw [h, List.getElem?_map] at z
  cases hc : cs[k]? with
  | none => rw [hc] at z; cases z
  | some c =>
    rw [hc] at z
    exact ⟨c, rfl, (Option.some.inj z).symm⟩
theorem PrAt.mem {H : Hp} {ts : List Addr} {cs : List (Int × Int)} (h : PrAt H ts cs) {t : Addr} (e : t ∈ ts) : ∃ c ∈ cs, H t = some (.tup [.int c.1, .int c.2]) := by
  obtain ⟨k, hk, rfl⟩ := List.getElem_of_mem e
  obtain ⟨c, h1, h2⟩ := h.get (List.getElem?_eq_getElem hk)
  exact ⟨c, List.mem_of_getElem? h1, h2⟩
theorem PrAt.mono {H H' : Hp} {ts : List Addr} {cs : List (Int × Int)} (h : PrAt H ts cs) (s : ∀ a o, (∃ x y, o = HO.tup [.int x, .int y]) → H a = some o → H' a = some o) : PrAt H' ts cs := by
  unfold PrAt at h ⊢
  rw [← h]
  refine List.map_congr_left fun a ha => ?_
  obtain ⟨c, _, e⟩ := PrAt.mem h ha
  rw [e, s a _ ⟨_, _, rfl⟩ e]
theorem PrAt.same {H H' : Hp} {ts : List Addr} {cs : List (Int × Int)} (h : PrAt H ts cs) (s : Same H H') : PrAt H' ts cs := h.mono fun a o _ e => s a o e
theorem PrAt.lst {H : Hp} {D : Addr} {xs ys : List V} {ts : List Addr} {cs : List (Int × Int)} (h : PrAt H ts cs) (hD : H D = some (.lst xs)) : PrAt (upd H D (.lst ys)) ts cs := h.mono fun a o ho e => by
  rw [upd_ne]
  · exact e
  · rintro rfl
    obtain ⟨x, y, rfl⟩ := ho
    rw [hD] at e
    cases e
theorem PrAt.snoc {H : Hp} {ts : List Addr} {cs : List (Int × Int)} {t : Addr} {c : Int × Int} (h : PrAt H ts cs) (e : H t = some (.tup [.int c.1, .int c.2])) : PrAt H (ts ++ [t]) (cs ++ [c]) := by
  unfold PrAt at h ⊢
  rw [List.map_append, List.map_append, h]
  show _ ++ [H t] = _ ++ [prO c]
  rw [e]
  rfl
def prD (c : Int × Int) : PyData := .tuple [.int c.1, .int c.2]
theorem dpPairs {K : PySem.W.Frag} {H : Hp} : ∀ {ts : List Addr} {cs : List (Int × Int)}, PrAt H ts cs → DpAll K H (ts.map V.ref) (cs.map prD)
  | [], [], _ => .nil
  | [], _ :: _, h => nomatch (congrArg List.length h : (0 : Nat) = _)
  | _ :: _, [], h => nomatch (congrArg List.length h : _ = (0 : Nat))
  | t :: ts, c :: cs, h => by
    have h1 : H t = prO c := (List.cons.inj h).1
    have h2 : PrAt H ts cs := (List.cons.inj h).2
    exact .cons (.tup (SqT.of h1) (.cons (.int c.1) (.cons (.int c.2) .nil))) (dpPairs h2)
theorem lay_prs : ∀ cs : List (Int × Int), PyData.canLayAll0 (cs.map prD) = true
  | [] => rfl
  | c :: cs => by rw [List.map_cons, PyData.canLayAll0, lay_prs cs]; rfl
theorem depth_prs : ∀ cs : List (Int × Int), PyData.depthAll (cs.map prD) ≤ 1
  | [] => Nat.zero_le _
  | c :: cs => by
    have := depth_prs cs
    rw [List.map_cons, PyData.depthAll]
    show max (0 + 1) _ ≤ 1
    omega
theorem shapedL_prs (cs : List (Int × Int)) : SeqAt.shaped (.list (cs.map prD)) = true := by
  unfold SeqAt.shaped
  rw [PyData.canLay0, lay_prs, PyData.depth]
  have := depth_prs cs
  rcases (show PyData.depthAll (cs.map prD) = 0 ∨ PyData.depthAll (cs.map prD) = 1 by omega) with h | h <;> rw [h] <;> rfl
theorem shapedT_prs (cs : List (Int × Int)) : SeqAt.shaped (.tuple (cs.map prD)) = true := by
  unfold SeqAt.shaped
  rw [PyData.canLay0, lay_prs, PyData.depth]
  have := depth_prs cs
  rcases (show PyData.depthAll (cs.map prD) = 0 ∨ PyData.depthAll (cs.map prD) = 1 by omega) with h | h <;> rw [h] <;> rfl
/-! ### all deeds -/
def rowD (ns : List Int) (hs : List Int) (i : Int) : List (Int × Int) := (hs.filter fun j => giveD ns (.int i) (.int j)).map fun j => (i, j)
def dlL (ns hs us : List Int) : List (Int × Int) := us.flatMap (rowD ns hs)
def dl (ns : List Int) : List (Int × Int) := dlL ns (hold ns ns.length) (hold ns ns.length)
theorem dlL_snoc (ns hs us : List Int) (i : Int) : dlL ns hs (us ++ [i]) = dlL ns hs us ++ rowD ns hs i := by
  unfold dlL
  rw [List.flatMap_append]
  show _ ++ (rowD ns hs i ++ []) = _
  rw [List.append_nil]
theorem rowD_snoc (ns us : List Int) (i j : Int) : rowD ns (us ++ [j]) i = rowD ns us i ++ (if giveD ns (.int i) (.int j) = true then [(i, j)] else []) := by
  unfold rowD
  rw [List.filter_append, List.map_append]
  congr 1
  by_cases h : giveD ns (.int i) (.int j) = true
  · rw [if_pos h, List.filter_cons_of_pos (p := fun j => giveD ns (.int i) (.int j)) h]; rfl
  · rw [if_neg h, List.filter_cons_of_neg (p := fun j => giveD ns (.int i) (.int j)) h]; rfl
theorem rowD_len (ns hs : List Int) (i : Int) : (rowD ns hs i).length ≤ hs.length := by
  unfold rowD
  rw [List.length_map]
  exact List.length_filter_le _ _
theorem dlL_len (ns hs : List Int) : ∀ us : List Int, (dlL ns hs us).length ≤ us.length * hs.length
  | [] => Nat.zero_le _
  | u :: us => by
    have h1 := dlL_len ns hs us
    have h2 := rowD_len ns hs u
    unfold dlL at h1 ⊢
    rw [List.flatMap_cons, List.length_append, List.length_cons, Nat.add_mul]
    omega
theorem dl_len (ns : List Int) : (dl ns).length ≤ ns.length * ns.length := by
  have h := hold_len ns ns.length
  exact Nat.le_trans (dlL_len ns _ _) (Nat.mul_le_mul h h)
theorem dl_may {ns : List Int} {c : Int × Int} (h : c ∈ dl ns) : ∃ i j : Nat, c = ((i : Int), (j : Int)) ∧ MayG ns i j := by
  unfold dl dlL at h
  obtain ⟨i, hi, hc⟩ := List.mem_flatMap.mp h
  unfold rowD at hc
  obtain ⟨j, hj, rfl⟩ := List.mem_map.mp hc
  obtain ⟨p, q, e1, e2, m⟩ := giveD_may (List.mem_filter.mp hj).2
  cases e1
  cases e2
  exact ⟨p, q, rfl, m⟩
theorem hold_mem {ns : List Int} {p : Nat} (h : p < ns.length) (h0 : 0 < ns.getD p 0) : (p : Int) ∈ hold ns ns.length := by
  unfold hold
  exact List.mem_map.mpr ⟨p, List.mem_filter.mpr ⟨List.mem_range.mpr h, decide_eq_true h0⟩, rfl⟩
theorem mem_dl {ns : List Int} {i j : Nat} (h : MayG ns i j) : ((i : Int), (j : Int)) ∈ dl ns := by
  have h1 := h.pj
  have h2 := h.ge
  unfold dl dlL
  refine List.mem_flatMap.mpr ⟨(i : Int), hold_mem h.hi (by omega), ?_⟩
  unfold rowD
  exact List.mem_map.mpr ⟨(j : Int), List.mem_filter.mpr ⟨hold_mem h.hj h1, giveD_of h⟩, rfl⟩
end MG

/-! MG: readings of comprehensions that laws use often, for any slots -/
namespace MG
open PySem PySem.Spec PyProof.Rows L2
theorem pt_never {X : Cx} {e : Expr} : PT X e (fun _ _ _ => False) := ⟨fun _ _ _ _ _ _ h => h.elim⟩
theorem pe_never {X : Cx} {e : Expr} : PE X e (fun _ _ _ => False) := ⟨fun _ _ _ _ _ _ h => h.elim⟩
def cnt (ns : List Int) : Nat := (ns.filter fun n => decide (0 < n)).length
theorem cnt_hold (ns : List Int) : cnt ns = (hold ns ns.length).length := (hold_all ns).symm
theorem same_updG {H : Hp} {p : Addr} {o : HO} (h : H p = none) : Same H (upd H p o) := fun b x e => by
  rw [upd_ne (ne_of_none e h)]
  exact e
/-- a comprehension over a tuple of ints, test and item without a trace -/
theorem lc_pureT {K : PySem.W.Frag} {a : Addr} {ns : List Int} {g : TG} {tt : TT} {te : TE} {vs : List Nat} {σ : L2.St} {H1 : Hp} {D : Addr} {Qd : Hp → Prop} (e : H1 a = some (.tup (ns.map V.int))) (hl : ns.length ≤ 1000) (nD : H1 D = none) (p : Int → Bool) (f : Int → V)
    (hs : ∀ n ∈ ns, ∀ (H : Hp) (Y : V → Hp → Prop) (N : Hp → Prop), Same H1 H → (p n = true → ∀ H4, Same H H4 → Y (f n) H4) → (p n = false → ∀ H4, Same H H4 → N H4) → g (.int n) (wipe σ vs) H fun σ2 H2 => wipe σ2 vs = wipe σ vs ∧ tt σ2 H2 fun b H3 => if b = true then te σ2 H3 Y else N H3)
    (hd : ∀ H', Same H1 H' → H' D = some (.lst ((ns.filter p).map f)) → Qd H') :
    ∃ W : Nat → Nat → Hp → Prop, (∃ m, W 0 m (upd H1 D (.lst []))) ∧ ∀ i m H, W i m H →
      ((Itt K a).stop i H ∧ Qd H) ∨ ((Itt K a).go i H ∧ ∃ Nx : Hp → Prop, (∀ H', Nx H' → ∃ m', m' < m ∧ W (i + 1) m' H') ∧ ∀ x H', (Itt K a).yld i H x H' → g x (wipe σ vs) H' fun σ2 H2 => wipe σ2 vs = wipe σ vs ∧ tt σ2 H2 fun b H3 =>
        if b = true then te σ2 H3 fun y H4 => ∃ acc, H4 D = some (.lst acc) ∧ acc.length < sizeLine ∧ Nx (upd H4 D (.lst (acc ++ [y]))) else Nx H3) := by
  refine lc_tup (K := K) (a := a) (xs := ns.map V.int) (fun i H' => Same H1 H' ∧ H' D = some (.lst (((ns.take i).filter p).map f))) ⟨same_updG nD, upd_same⟩ ?_ ?_ ?_
  · rintro i H' _ ⟨sm, _⟩
    exact SqT.of (sm _ _ e)
  · rintro i x H' hx ⟨sm, hD⟩
    rw [List.getElem?_map] at hx
    obtain ⟨n, hn, rfl⟩ := Option.map_eq_some_iff.mp hx
    have et : ns.take (i + 1) = ns.take i ++ [n] := by rw [List.take_add_one, hn]; rfl
    refine hs n (List.mem_of_getElem? hn) H' _ _ sm (fun hp H4 s4 => ?_) (fun hp H4 s4 => ?_)
    · refine ⟨_, s4 _ _ hD, ?_, ?_, ?_⟩
      · rw [List.length_map]
        refine small1000 (Nat.le_trans (List.length_filter_le _ _) ?_)
        rw [List.length_take]; omega
      · intro c o hc
        rw [upd_ne (ne_of_none hc nD)]
        exact s4 _ _ (sm c o hc)
      · rw [upd_same, et, List.filter_append, List.filter_cons_of_pos hp, List.map_append]
        rfl
    · refine ⟨sm.trans s4, ?_⟩
      rw [et, List.filter_append, List.filter_cons_of_neg (by rw [hp]; exact Bool.false_ne_true), List.filter_nil, List.append_nil]
      exact s4 _ _ hD
  · rintro H' ⟨sm, hD⟩
    rw [List.length_map, List.take_length] at hD
    exact hd H' sm hD
theorem lc_pureL {K : PySem.W.Frag} {a : Addr} {ns : List Int} {g : TG} {tt : TT} {te : TE} {vs : List Nat} {σ : L2.St} {H1 : Hp} {D : Addr} {Qd : Hp → Prop} (e : H1 a = some (.lst (ns.map V.int))) (hl : ns.length ≤ 1000) (nD : H1 D = none) (p : Int → Bool) (f : Int → V)
    (hs : ∀ n ∈ ns, ∀ (H : Hp) (Y : V → Hp → Prop) (N : Hp → Prop), Same H1 H → (p n = true → ∀ H4, Same H H4 → Y (f n) H4) → (p n = false → ∀ H4, Same H H4 → N H4) → g (.int n) (wipe σ vs) H fun σ2 H2 => wipe σ2 vs = wipe σ vs ∧ tt σ2 H2 fun b H3 => if b = true then te σ2 H3 Y else N H3)
    (hd : ∀ H', Same H1 H' → H' D = some (.lst ((ns.filter p).map f)) → Qd H') :
    ∃ W : Nat → Nat → Hp → Prop, (∃ m, W 0 m (upd H1 D (.lst []))) ∧ ∀ i m H, W i m H →
      ((Itl K a).stop i H ∧ Qd H) ∨ ((Itl K a).go i H ∧ ∃ Nx : Hp → Prop, (∀ H', Nx H' → ∃ m', m' < m ∧ W (i + 1) m' H') ∧ ∀ x H', (Itl K a).yld i H x H' → g x (wipe σ vs) H' fun σ2 H2 => wipe σ2 vs = wipe σ vs ∧ tt σ2 H2 fun b H3 =>
        if b = true then te σ2 H3 fun y H4 => ∃ acc, H4 D = some (.lst acc) ∧ acc.length < sizeLine ∧ Nx (upd H4 D (.lst (acc ++ [y]))) else Nx H3) := by
  refine lc_list (K := K) (a := a) (xs := ns.map V.int) (fun i H' => Same H1 H' ∧ H' D = some (.lst (((ns.take i).filter p).map f))) ⟨same_updG nD, upd_same⟩ ?_ ?_ ?_
  · rintro i H' _ ⟨sm, _⟩
    exact SqL.of (sm _ _ e)
  · rintro i x H' hx ⟨sm, hD⟩
    rw [List.getElem?_map] at hx
    obtain ⟨n, hn, rfl⟩ := Option.map_eq_some_iff.mp hx
    have et : ns.take (i + 1) = ns.take i ++ [n] := by rw [List.take_add_one, hn]; rfl
    refine hs n (List.mem_of_getElem? hn) H' _ _ sm (fun hp H4 s4 => ?_) (fun hp H4 s4 => ?_)
    · refine ⟨_, s4 _ _ hD, ?_, ?_, ?_⟩
      · rw [List.length_map]
        refine small1000 (Nat.le_trans (List.length_filter_le _ _) ?_)
        rw [List.length_take]; omega
      · intro c o hc
        rw [upd_ne (ne_of_none hc nD)]
        exact s4 _ _ (sm c o hc)
      · rw [upd_same, et, List.filter_append, List.filter_cons_of_pos hp, List.map_append]
        rfl
    · refine ⟨sm.trans s4, ?_⟩
      rw [et, List.filter_append, List.filter_cons_of_neg (by rw [hp]; exact Bool.false_ne_true), List.filter_nil, List.append_nil]
      exact s4 _ _ hD
  · rintro H' ⟨sm, hD⟩
    rw [List.length_map, List.take_length] at hD
    exact hd H' sm hD
theorem wipe1 (σ : L2.St) (i : Nat) (x : Option V) : wipe ((wipe σ [i]).set i x) [i] = wipe σ [i] := by
  show ((σ.set i none).set i x).set i none = σ.set i none
  rw [List.set_set, List.set_set]
theorem wipe2 (σ : L2.St) {i j : Nat} (h : i ≠ j) (x y : Option V) : wipe (((wipe σ [i, j]).set i x).set j y) [i, j] = wipe σ [i, j] := by
  show (((((σ.set j none).set i none).set i x).set j y).set j none).set i none = (σ.set j none).set i none
  rw [List.set_set, List.set_set, List.set_comm x none h, List.set_set, List.set_set]
/-- len([n for n in row if n > 0]) -/
theorem cntT {K : PySem.W.Frag} {r i : Nat} {σ : L2.St} {H : Hp} {Q : VK} {a : Addr} {ns : List Int} (hr : σ[r]? = some (some (.ref a))) (hi : i < σ.length) (e : H a = some (.tup (ns.map V.int))) (hl : ns.length ≤ 1000) (q : ∀ H', Same H H' → Q (.int (cnt ns : Nat)) H') :
    tCB (fun xs H Q => ∃ p ys, xs = [.ref p] ∧ (SqL K H p ys ∨ SqT K H p ys) ∧ Q (.int ys.length) H) (tCons (tLc (iTup K (tVar r)) (gName i) (tTest (tOp (rI0 fun i j => .bl (decide (j < i))) (tVar i) (tC (.int 0)))) (tVar i) [i]) tNil) σ H Q := by
  refine ⟨_, hr, a, rfl, ⟨_, SqT.of e⟩, fun D nD => ?_⟩
  refine lc_pureT (K := K) e hl nD (fun n => decide (0 < n)) V.int ?_ ?_
  · intro n _ H' Y N sm y1 y0
    have g1 : ((wipe σ [i]).set i (some (V.int n)))[i]? = some (some (V.int n)) := List.getElem?_set_self (by rw [wipe_length]; exact hi)
    refine ⟨wipe1 σ i _, _, g1, n, 0, rfl, rfl, _, rfl, ?_⟩
    cases h : decide (0 < n) with
    | true => exact iteT ⟨_, g1, y1 h H' (.refl _)⟩
    | false => exact iteF (y0 h H' (.refl _))
  · intro H' sm hD
    refine ⟨D, _, rfl, .inl (SqL.of hD), ?_⟩
    rw [List.length_map]
    exact q H' sm
/-- the same, its end alone -/
theorem cntW {K : PySem.W.Frag} {i : Nat} {σ : L2.St} {H : Hp} {a D : Addr} {ns : List Int} {Qd : Hp → Prop} (hi : i < σ.length) (e : H a = some (.tup (ns.map V.int))) (hl : ns.length ≤ 1000) (nD : H D = none) (q : ∀ H', Same H H' → H' D = some (.lst ((ns.filter fun n => decide (0 < n)).map V.int)) → Qd H') :
    ∃ W : Nat → Nat → Hp → Prop, (∃ m, W 0 m (upd H D (.lst []))) ∧ ∀ j m H, W j m H →
      ((Itt K a).stop j H ∧ Qd H) ∨ ((Itt K a).go j H ∧ ∃ Nx : Hp → Prop, (∀ H', Nx H' → ∃ m', m' < m ∧ W (j + 1) m' H') ∧ ∀ x H', (Itt K a).yld j H x H' → gName i x (wipe σ [i]) H' fun σ2 H2 => wipe σ2 [i] = wipe σ [i] ∧ tTest (tOp (rI0 fun i j => .bl (decide (j < i))) (tVar i) (tC (.int 0))) σ2 H2 fun b H3 =>
        if b = true then tVar i σ2 H3 fun y H4 => ∃ acc, H4 D = some (.lst acc) ∧ acc.length < sizeLine ∧ Nx (upd H4 D (.lst (acc ++ [y]))) else Nx H3) := by
  refine lc_pureT (K := K) e hl nD (fun n => decide (0 < n)) V.int ?_ q
  intro n _ H' Y N sm y1 y0
  have g1 : ((wipe σ [i]).set i (some (V.int n)))[i]? = some (some (V.int n)) := List.getElem?_set_self (by rw [wipe_length]; exact hi)
  refine ⟨wipe1 σ i _, _, g1, n, 0, rfl, rfl, _, rfl, ?_⟩
  cases h : decide (0 < n) with
  | true => exact iteT ⟨_, g1, y1 h H' (.refl _)⟩
  | false => exact iteF (y0 h H' (.refl _))
theorem decI (a : Int) (b : Int) : decide (V.int a = V.int b) = decide (a = b) := by
  by_cases h : a = b
  · rw [h]; simp
  · rw [decide_eq_false h, decide_eq_false (fun z => h (V.int.inj z))]
/-- any([one == 0 and two > 0 for one, two in zip(here, there)]) -/
theorem hfnT {K : PySem.W.Frag} {r1 r2 i j : Nat} {σ : L2.St} {H : Hp} {Q : VK} {a b : Addr} {r o : List Int} (h1 : σ[r1]? = some (some (.ref a))) (h2 : σ[r2]? = some (some (.ref b))) (hij : i ≠ j) (hi : i < σ.length) (hj : j < σ.length)
    (ea : H a = some (.tup (r.map V.int))) (eb : H b = some (.tup (o.map V.int))) (hlen : r.length = o.length) (hl : r.length ≤ 1000) (q : ∀ H', Same H H' → Q (.bl (hfn r o)) H') :
    tCB (rAny K) (tCons (tLc (RZ.iZipA K (tCons (tVar r1) (tCons (tVar r2) tNil))) (gTup K 2 (gCons (gName i) (gCons (gName j) gNil))) tYes (tAndV (tOp rEq (tVar i) (tC (.int 0))) (tOp (rI0 fun i j => .bl (decide (j < i))) (tVar j) (tC (.int 0)))) [i, j]) tNil) σ H Q := by
  refine ⟨_, h1, _, h2, a, b, _, _, rfl, .inr ⟨SqT.of ea, SqT.of eb, fun D nD => ?_⟩⟩
  let L : List Bool := (r.zip o).map fun p => decide (p.1 = 0) && decide (p.2 > 0)
  have hL : L.length = r.length := by
    show ((r.zip o).map _).length = _
    rw [List.length_map, List.length_zip]; omega
  refine lc_it (walk_zipT (K := K) (a := a) (b := b) (xs := r.map V.int) (ys := o.map V.int) (n := r.length) (by rw [List.length_map, List.length_map]; omega)) (fun i H' => Same H H' ∧ H' D = some (.lst ((L.take i).map V.bl))) ⟨same_updG nD, upd_same⟩ ?_ ?_ ?_
  · intro i H' _ h
    exact ⟨SqT.of (h.1 _ _ ea), SqT.of (h.1 _ _ eb)⟩
  · rintro m x H' H'' hm ⟨sm, hD⟩ ⟨T, x1, x2, rfl, nT, rfl, e1, e2⟩
    have hm2 : m < o.length := by omega
    have e1' : x1 = .int r[m] := by
      have z : (r.map V.int)[m]? = some x1 := e1
      rw [List.getElem?_map, List.getElem?_eq_getElem hm] at z
      exact (Option.some.inj z).symm
    have e2' : x2 = .int o[m] := by
      have z : (o.map V.int)[m]? = some x2 := e2
      rw [List.getElem?_map, List.getElem?_eq_getElem hm2] at z
      exact (Option.some.inj z).symm
    subst e1' e2'
    have smT : Same H' (upd H' T (.tup [.int r[m], .int o[m]])) := same_updG nT
    have hz : L[m]? = some (decide (r[m] = 0) && decide (o[m] > 0)) := by
      show ((r.zip o).map _)[m]? = _
      rw [List.getElem?_map, (List.getElem?_zip_eq_some (z := (r[m], o[m]))).mpr ⟨List.getElem?_eq_getElem hm, List.getElem?_eq_getElem hm2⟩]
      rfl
    have fin : ∀ y, y = (decide (r[m] = 0) && decide (o[m] > 0)) → ∃ acc, upd H' T (.tup [.int r[m], .int o[m]]) D = some (.lst acc) ∧ acc.length < sizeLine ∧ Same H (upd (upd H' T (.tup [.int r[m], .int o[m]])) D (.lst (acc ++ [V.bl y]))) ∧ upd (upd H' T (.tup [.int r[m], .int o[m]])) D (.lst (acc ++ [V.bl y])) D = some (.lst ((L.take (m + 1)).map V.bl)) := fun y hy => by
      refine ⟨_, smT _ _ hD, ?_, ?_, ?_⟩
      · rw [List.length_map, List.length_take]
        exact small1000 (by omega)
      · intro c o hc
        rw [upd_ne (ne_of_none hc nD)]
        exact smT _ _ (sm c o hc)
      · rw [upd_same, List.take_add_one, hz, List.map_append, hy]
        rfl
    have si : i < (wipe σ [i, j]).length := by rw [wipe_length]; exact hi
    have sj : j < (wipe σ [i, j]).length := by rw [wipe_length]; exact hj
    have gi : (((wipe σ [i, j]).set i (some (V.int r[m]))).set j (some (V.int o[m])))[i]? = some (some (V.int r[m])) := by
      rw [List.getElem?_set_ne (Ne.symm hij)]; exact List.getElem?_set_self si
    have gj : (((wipe σ [i, j]).set i (some (V.int r[m]))).set j (some (V.int o[m])))[j]? = some (some (V.int o[m])) := List.getElem?_set_self (by rw [List.length_set]; exact sj)
    refine ⟨T, [.int r[m], .int o[m]], rfl, .inl (.inl upd_same), rfl, .int r[m], [.int o[m]], rfl, .int o[m], [], rfl, rfl, wipe2 σ hij _ _, ?_⟩
    refine ⟨_, gi, rfl, _, rfl, ?_⟩
    rw [decI]
    refine ite2 (fun hp => ?_) (fun hp => ?_)
    · refine ⟨_, gj, _, 0, rfl, rfl, ?_⟩
      exact fin _ (by rw [hp]; rfl)
    · have hp' : decide (r[m] = 0) = false := by cases h : decide (r[m] = 0) <;> first | rfl | exact absurd h hp
      exact fin _ (by rw [hp']; rfl)
  · rintro H' ⟨sm, hD⟩
    rw [← hL, List.take_length] at hD
    refine ⟨D, L, rfl, SqL.of hD, ?_⟩
    have e : L.any id = hfn r o := by
      show ((r.zip o).map _).any id = _
      unfold hfn
      rw [List.any_map]
      rfl
    rw [e]
    exact q H' sm
/-- any([two > 0 and one == 0 for one, two in zip(here, there)]) -/
theorem hfnR {K : PySem.W.Frag} {r1 r2 i j : Nat} {σ : L2.St} {H : Hp} {Q : VK} {a b : Addr} {r o : List Int} (h1 : σ[r1]? = some (some (.ref a))) (h2 : σ[r2]? = some (some (.ref b))) (hij : i ≠ j) (hi : i < σ.length) (hj : j < σ.length)
    (ea : H a = some (.tup (r.map V.int))) (eb : H b = some (.tup (o.map V.int))) (hlen : r.length = o.length) (hl : r.length ≤ 1000) (q : ∀ H', Same H H' → Q (.bl (hfn r o)) H') :
    tCB (rAny K) (tCons (tLc (RZ.iZipA K (tCons (tVar r1) (tCons (tVar r2) tNil))) (gTup K 2 (gCons (gName i) (gCons (gName j) gNil))) tYes (tAndV (tOp (rI0 fun i j => .bl (decide (j < i))) (tVar j) (tC (.int 0))) (tOp rEq (tVar i) (tC (.int 0)))) [i, j]) tNil) σ H Q := by
  refine ⟨_, h1, _, h2, a, b, _, _, rfl, .inr ⟨SqT.of ea, SqT.of eb, fun D nD => ?_⟩⟩
  let L : List Bool := (r.zip o).map fun p => decide (p.1 = 0) && decide (p.2 > 0)
  have hL : L.length = r.length := by
    show ((r.zip o).map _).length = _
    rw [List.length_map, List.length_zip]; omega
  refine lc_it (walk_zipT (K := K) (a := a) (b := b) (xs := r.map V.int) (ys := o.map V.int) (n := r.length) (by rw [List.length_map, List.length_map]; omega)) (fun i H' => Same H H' ∧ H' D = some (.lst ((L.take i).map V.bl))) ⟨same_updG nD, upd_same⟩ ?_ ?_ ?_
  · intro i H' _ h
    exact ⟨SqT.of (h.1 _ _ ea), SqT.of (h.1 _ _ eb)⟩
  · rintro m x H' H'' hm ⟨sm, hD⟩ ⟨T, x1, x2, rfl, nT, rfl, e1, e2⟩
    have hm2 : m < o.length := by omega
    have e1' : x1 = .int r[m] := by
      have z : (r.map V.int)[m]? = some x1 := e1
      rw [List.getElem?_map, List.getElem?_eq_getElem hm] at z
      exact (Option.some.inj z).symm
    have e2' : x2 = .int o[m] := by
      have z : (o.map V.int)[m]? = some x2 := e2
      rw [List.getElem?_map, List.getElem?_eq_getElem hm2] at z
      exact (Option.some.inj z).symm
    subst e1' e2'
    have smT : Same H' (upd H' T (.tup [.int r[m], .int o[m]])) := same_updG nT
    have hz : L[m]? = some (decide (r[m] = 0) && decide (o[m] > 0)) := by
      show ((r.zip o).map _)[m]? = _
      rw [List.getElem?_map, (List.getElem?_zip_eq_some (z := (r[m], o[m]))).mpr ⟨List.getElem?_eq_getElem hm, List.getElem?_eq_getElem hm2⟩]
      rfl
    have fin : ∀ y, y = (decide (r[m] = 0) && decide (o[m] > 0)) → ∃ acc, upd H' T (.tup [.int r[m], .int o[m]]) D = some (.lst acc) ∧ acc.length < sizeLine ∧ Same H (upd (upd H' T (.tup [.int r[m], .int o[m]])) D (.lst (acc ++ [V.bl y]))) ∧ upd (upd H' T (.tup [.int r[m], .int o[m]])) D (.lst (acc ++ [V.bl y])) D = some (.lst ((L.take (m + 1)).map V.bl)) := fun y hy => by
      refine ⟨_, smT _ _ hD, ?_, ?_, ?_⟩
      · rw [List.length_map, List.length_take]
        exact small1000 (by omega)
      · intro c o hc
        rw [upd_ne (ne_of_none hc nD)]
        exact smT _ _ (sm c o hc)
      · rw [upd_same, List.take_add_one, hz, List.map_append, hy]
        rfl
    have si : i < (wipe σ [i, j]).length := by rw [wipe_length]; exact hi
    have sj : j < (wipe σ [i, j]).length := by rw [wipe_length]; exact hj
    have gi : (((wipe σ [i, j]).set i (some (V.int r[m]))).set j (some (V.int o[m])))[i]? = some (some (V.int r[m])) := by
      rw [List.getElem?_set_ne (Ne.symm hij)]; exact List.getElem?_set_self si
    have gj : (((wipe σ [i, j]).set i (some (V.int r[m]))).set j (some (V.int o[m])))[j]? = some (some (V.int o[m])) := List.getElem?_set_self (by rw [List.length_set]; exact sj)
    refine ⟨T, [.int r[m], .int o[m]], rfl, .inl (.inl upd_same), rfl, .int r[m], [.int o[m]], rfl, .int o[m], [], rfl, rfl, wipe2 σ hij _ _, ?_⟩
    refine ⟨_, gj, _, 0, rfl, rfl, _, rfl, ?_⟩
    refine ite2 (fun hp => ?_) (fun hp => ?_)
    · refine ⟨_, gi, rfl, ?_⟩
      rw [decI]
      exact fin _ (by rw [show decide (o[m] > 0) = true from hp, Bool.and_true])
    · have hp' : decide (o[m] > 0) = false := by cases h : decide (o[m] > 0) <;> first | rfl | exact absurd h hp
      exact fin _ (by rw [hp', Bool.and_false])
  · rintro H' ⟨sm, hD⟩
    rw [← hL, List.take_length] at hD
    refine ⟨D, L, rfl, SqL.of hD, ?_⟩
    have e : L.any id = hfn r o := by
      show ((r.zip o).map _).any id = _
      unfold hfn
      rw [List.any_map]
      rfl
    rw [e]
    exact q H' sm
/-- [place for place, amount in enumerate(row) if amount > 0], its end alone -/
theorem holdW {K : PySem.W.Frag} {i j : Nat} {σ : L2.St} {H : Hp} {a D : Addr} {ns : List Int} {Qd : Hp → Prop} (hij : i ≠ j) (hi : i < σ.length) (hj : j < σ.length) (e : H a = some (.tup (ns.map V.int))) (hl : ns.length ≤ 1000) (nD : H D = none) (q : ∀ H', Same H H' → H' D = some (.lst ((hold ns ns.length).map V.int)) → Qd H') :
    ∃ W : Nat → Nat → Hp → Prop, (∃ m, W 0 m (upd H D (.lst []))) ∧ ∀ k m H, W k m H →
      ((IteT K a).stop k H ∧ Qd H) ∨ ((IteT K a).go k H ∧ ∃ Nx : Hp → Prop, (∀ H', Nx H' → ∃ m', m' < m ∧ W (k + 1) m' H') ∧ ∀ x H', (IteT K a).yld k H x H' → gTup K 2 (gCons (gName i) (gCons (gName j) gNil)) x (wipe σ [i, j]) H' fun σ2 H2 => wipe σ2 [i, j] = wipe σ [i, j] ∧ tTest (tOp (rI0 fun i j => .bl (decide (j < i))) (tVar j) (tC (.int 0))) σ2 H2 fun b H3 =>
        if b = true then tVar i σ2 H3 fun y H4 => ∃ acc, H4 D = some (.lst acc) ∧ acc.length < sizeLine ∧ Nx (upd H4 D (.lst (acc ++ [y]))) else Nx H3) := by
  refine lc_it (walk_enumT (K := K) (a := a) (xs := ns.map V.int)) (fun i H' => Same H H' ∧ H' D = some (.lst ((hold ns i).map V.int))) ⟨same_updG nD, upd_same⟩ ?_ ?_ ?_
  · intro i H' _ h
    exact SqT.of (h.1 _ _ e)
  · rintro m x H' H'' hm ⟨sm, hD⟩ ⟨T, x1, x2, rfl, nT, rfl, e1, e2⟩
    rw [List.length_map] at hm
    have e1' : x1 = .int (m : Nat) := (Option.some.inj e1).symm
    have e2' : x2 = .int ns[m] := by
      have z : (ns.map V.int)[m]? = some x2 := e2
      rw [List.getElem?_map, List.getElem?_eq_getElem hm] at z
      exact (Option.some.inj z).symm
    subst e1' e2'
    have smT : Same H' (upd H' T (.tup [.int (m : Nat), .int ns[m]])) := same_updG nT
    have hg : ns.getD m 0 = ns[m] := by rw [List.getD_eq_getElem?_getD, List.getElem?_eq_getElem hm]; rfl
    have si : i < (wipe σ [i, j]).length := by rw [wipe_length]; exact hi
    have sj : j < (wipe σ [i, j]).length := by rw [wipe_length]; exact hj
    have gi : (((wipe σ [i, j]).set i (some (V.int (m : Nat)))).set j (some (V.int ns[m])))[i]? = some (some (V.int (m : Nat))) := by
      rw [List.getElem?_set_ne (Ne.symm hij)]; exact List.getElem?_set_self si
    have gj : (((wipe σ [i, j]).set i (some (V.int (m : Nat)))).set j (some (V.int ns[m])))[j]? = some (some (V.int ns[m])) := List.getElem?_set_self (by rw [List.length_set]; exact sj)
    refine ⟨T, [.int (m : Nat), .int ns[m]], rfl, .inl (.inl upd_same), rfl, .int (m : Nat), [.int ns[m]], rfl, .int ns[m], [], rfl, rfl, wipe2 σ hij _ _, _, gj, ns[m], 0, rfl, rfl, _, rfl, ?_⟩
    refine ite2 (fun hp => ?_) (fun hp => ?_)
    · have hp' : 0 < ns[m] := of_decide_eq_true hp
      refine ⟨.int (m : Nat), gi, _, smT _ _ hD, ?_, ?_, ?_⟩
      · rw [List.length_map]
        exact small1000 (Nat.le_trans (hold_len ns m) (by omega))
      · intro c o hc
        rw [upd_ne (ne_of_none hc nD)]
        exact smT _ _ (sm c o hc)
      · rw [upd_same, hold_succ, hg, if_pos hp', List.map_append]
        rfl
    · have hp' : ¬ 0 < ns[m] := fun z => hp (decide_eq_true z)
      refine ⟨sm.trans smT, ?_⟩
      rw [hold_succ, hg, if_neg hp', List.append_nil]
      exact smT _ _ hD
  · rintro H' ⟨sm, hD⟩
    rw [List.length_map] at hD
    exact q H' sm hD
theorem hold_get {ns : List Int} {x : Int} (h : x ∈ hold ns ns.length) : ∃ p : Nat, x = p ∧ p < ns.length ∧ 0 < ns.getD p 0 := by
  unfold hold at h
  obtain ⟨p, hp, rfl⟩ := List.mem_map.mp h
  obtain ⟨h1, h2⟩ := List.mem_filter.mp hp
  exact ⟨p, rfl, List.mem_range.mp h1, of_decide_eq_true h2⟩
/-! ### lists of rows as data -/
def rowDt (r : List Int) : PyData := .tuple (r.map PyData.int)
theorem dpRows {K : PySem.W.Frag} {H : Hp} : ∀ {ts : List Addr}, (∀ t ∈ ts, ∃ xs : List Int, H t = some (.tup (xs.map V.int))) → ∃ rs : List (List Int), rs.length = ts.length ∧ DpAll K H (ts.map V.ref) (rs.map rowDt)
  | [], _ => ⟨[], rfl, .nil⟩
  | t :: ts, h => by
    obtain ⟨xs, e⟩ := h t List.mem_cons_self
    obtain ⟨rs, h1, h2⟩ := dpRows (K := K) fun u hu => h u (List.mem_cons_of_mem _ hu)
    exact ⟨xs :: rs, by rw [List.length_cons, List.length_cons, h1], .cons (.tup (SqT.of e) (dpIntsG xs)) h2⟩
theorem lay_rows : ∀ rs : List (List Int), PyData.canLayAll0 (rs.map rowDt) = true
  | [] => rfl
  | r :: rs => by
    rw [List.map_cons, PyData.canLayAll0, lay_rows rs, rowDt, PyData.canLay0, lay_intsG]; rfl
theorem depth_rows : ∀ rs : List (List Int), PyData.depthAll (rs.map rowDt) ≤ 1
  | [] => Nat.zero_le _
  | r :: rs => by
    have := depth_rows rs
    rw [List.map_cons, PyData.depthAll, rowDt, PyData.depth, depth_intsG]
    omega
theorem shapedL_rows (rs : List (List Int)) : SeqAt.shaped (.list (rs.map rowDt)) = true := by
  unfold SeqAt.shaped
  rw [PyData.canLay0, lay_rows, PyData.depth]
  have := depth_rows rs
  rcases (show PyData.depthAll (rs.map rowDt) = 0 ∨ PyData.depthAll (rs.map rowDt) = 1 by omega) with h | h <;> rw [h] <;> rfl
/-! ### good rows -/
structure Gd (ns : List Int) : Prop where
  nn : ∀ n ∈ ns, 0 ≤ n
  sum : ns.sum < 2 ^ 200
  len : ns.length ≤ 30
  pos : ∃ n ∈ ns, 0 < n
theorem mem_le_sumG : ∀ {l : List Int}, (∀ n ∈ l, 0 ≤ n) → ∀ n ∈ l, n ≤ l.sum
  | [], _, n, h => absurd h List.not_mem_nil
  | x :: l, h, n, hn => by
    have hl : ∀ m ∈ l, 0 ≤ m := fun m hm => h m (List.mem_cons_of_mem _ hm)
    have hs : ∀ {k : List Int}, (∀ m ∈ k, 0 ≤ m) → 0 ≤ k.sum := fun {k} => by
      induction k with
      | nil => intro _; exact Int.le_refl _
      | cons y k ih =>
        intro hk
        rw [List.sum_cons]
        have := hk y List.mem_cons_self
        have := ih fun m hm => hk m (List.mem_cons_of_mem _ hm)
        omega
    rw [List.sum_cons]
    rcases List.mem_cons.mp hn with rfl | hn
    · have := hs hl; omega
    · have := mem_le_sumG hl n hn
      have := h x List.mem_cons_self
      omega
theorem sum_le_mul {c : Int} : ∀ {l : List Int}, (∀ n ∈ l, n ≤ c) → l.sum ≤ l.length * c
  | [], _ => by simp
  | x :: l, h => by
    have h1 := sum_le_mul (c := c) (l := l) fun n hn => h n (List.mem_cons_of_mem _ hn)
    have h2 := h x List.mem_cons_self
    rw [List.sum_cons, List.length_cons]
    have : ((l.length + 1 : Nat) : Int) * c = l.length * c + c := by rw [Int.natCast_add, Int.add_mul]; omega
    omega
theorem Gd.deed {ns : List Int} {i j : Nat} (g : Gd ns) (m : MayG ns i j) : Gd (MG.deed ns i j) := by
  refine ⟨deed_nn m g.nn, by rw [deed_sum m]; exact g.sum, by rw [deed_len]; exact g.len, ?_⟩
  have := deed_get m j
  rw [if_pos rfl] at this
  exact ⟨_, getD_mem (by rw [deed_len]; exact m.hj), by rw [this]; have := m.pj; omega⟩
theorem brk_layG (r o : List Int) : ∀ x ∈ brkT r o, PyData.canLay0 (.str x) = true := by
  intro x hx
  unfold brkT at hx
  split at hx
  · cases hx
  · split at hx
    · rw [List.mem_singleton.mp hx]; decide +kernel
    · unfold MG.clausesOf at hx
      obtain ⟨y, hy, rfl⟩ := List.mem_map.mp hx
      have hy' := (List.mem_filter.mp hy).1
      unfold asked at hy'
      simp only [List.mem_cons, List.not_mem_nil, or_false] at hy'
      rcases hy' with h | h | h | h | h | h
      · rw [h]; exact (show PyData.canLay0 (.str "sum") = true by decide +kernel)
      · rw [h]; exact (show PyData.canLay0 (.str "nothing") = true by decide +kernel)
      · rw [h]; exact (show PyData.canLay0 (.str "measure") = true by decide +kernel)
      · rw [h]; exact (show PyData.canLay0 (.str "twos") = true by decide +kernel)
      · rw [h]; exact (show PyData.canLay0 (.str "odd ones") = true by decide +kernel)
      · rw [h]; exact (show PyData.canLay0 (.str "doubled") = true by decide +kernel)
end MG

/-! MG: what can be shown (repr), by data alone; amounts -/
namespace MG
open PySem PySem.Spec PyProof.Rows L2
def Sh (n c : Nat) (d : PyData) : Prop := d.showable = true ∧ d.depth ≤ n ∧ d.shown.length ≤ c
theorem Sh.le {n c n' c' : Nat} {d : PyData} (h : Sh n c d) (hn : n ≤ n') (hc : c ≤ c') : Sh n' c' d := ⟨h.1, Nat.le_trans h.2.1 hn, Nat.le_trans h.2.2 hc⟩
theorem Sh.int {i : Int} (h : i.natAbs < 2 ^ 300) : Sh 0 301 (.int i) := by
  refine ⟨?_, Nat.le_refl _, int_len (by decide) h⟩
  show decide (i.natAbs.log2 < 1920) = true
  refine decide_eq_true ?_
  by_cases h0 : i.natAbs = 0
  · rw [h0]; decide
  · exact Nat.lt_of_lt_of_le ((Nat.log2_lt h0).mpr h) (by decide)
theorem Sh.str (x : Str) {c : Nat} (h : (reprText x).length ≤ c) : Sh 0 c (.str x) := ⟨rfl, Nat.le_refl _, h⟩
theorem Sh.bool (b : Bool) : Sh 0 5 (.bool b) := ⟨rfl, Nat.le_refl _, by cases b <;> decide +kernel⟩
theorem Sh.none : Sh 0 4 .none := ⟨rfl, Nat.le_refl _, by decide +kernel⟩
theorem shs {n c : Nat} : ∀ {ds : List PyData}, (∀ d ∈ ds, Sh n c d) → PyData.showableAll ds = true ∧ PyData.depthAll ds ≤ n ∧ piled (PyData.shownAll ds) ≤ ds.length * (c + 2)
  | [], _ => ⟨rfl, Nat.zero_le _, by rw [PyData.shownAll, piled_nil]; exact Nat.zero_le _⟩
  | d :: ds, h => by
    obtain ⟨b, e, f⟩ := h d List.mem_cons_self
    obtain ⟨b2, e2, f2⟩ := shs (ds := ds) fun y hy => h y (List.mem_cons_of_mem _ hy)
    refine ⟨?_, ?_, ?_⟩
    · rw [PyData.showableAll, b, b2]; rfl
    · rw [PyData.depthAll]; exact Nat.max_le.mpr ⟨e, e2⟩
    · rw [PyData.shownAll, piled_cons, List.length_cons, Nat.add_mul, Nat.one_mul]
      omega
theorem Sh.tup {n c m : Nat} {ds : List PyData} (h : ∀ d ∈ ds, Sh n c d) (hm : ds.length ≤ m) : Sh (n + 1) (m * (c + 2) + 3) (.tuple ds) := by
  obtain ⟨b1, e1, f1⟩ := shs h
  refine ⟨b1, Nat.succ_le_succ e1, ?_⟩
  have h1 := tupleText_le (PyData.shownAll ds)
  have h2 : ds.length * (c + 2) ≤ m * (c + 2) := Nat.mul_le_mul_right _ hm
  show (tupleText (PyData.shownAll ds)).length ≤ _
  omega
theorem Sh.list {n c m : Nat} {ds : List PyData} (h : ∀ d ∈ ds, Sh n c d) (hm : ds.length ≤ m) : Sh (n + 1) (m * (c + 2) + 3) (.list ds) := by
  obtain ⟨b1, e1, f1⟩ := shs h
  refine ⟨b1, Nat.succ_le_succ e1, ?_⟩
  have h1 := listText_le (PyData.shownAll ds)
  have h2 : ds.length * (c + 2) ≤ m * (c + 2) := Nat.mul_le_mul_right _ hm
  show (listText (PyData.shownAll ds)).length ≤ _
  omega
theorem Sh.row {r : List Int} (h : ∀ n ∈ r, 0 ≤ n ∧ n < 2 ^ 250) (hl : r.length ≤ 40) : Sh 1 (40 * 303 + 3) (rowDt r) := by
  refine Sh.tup (n := 0) (c := 301) (fun d hd => ?_) (by rw [List.length_map]; exact hl)
  obtain ⟨n, hn, rfl⟩ := List.mem_map.mp hd
  obtain ⟨h1, h2⟩ := h n hn
  refine Sh.int (Nat.lt_of_lt_of_le ?_ (show 2 ^ 250 ≤ 2 ^ 300 by decide))
  have : ((n.natAbs : Nat) : Int) < ((2 ^ 250 : Nat) : Int) := by
    rw [Int.natAbs_of_nonneg h1]
    exact h2
  exact Int.ofNat_lt.mp this
theorem brk_word {r o : List Int} {x : Str} (hx : x ∈ brkT r o) : x = "places" ∨ x = "sum" ∨ x = "nothing" ∨ x = "measure" ∨ x = "twos" ∨ x = "odd ones" ∨ x = "doubled" := by
  unfold brkT at hx
  split at hx
  · cases hx
  · split at hx
    · exact .inl (List.mem_singleton.mp hx)
    · unfold MG.clausesOf at hx
      obtain ⟨y, hy, rfl⟩ := List.mem_map.mp hx
      have hy' := (List.mem_filter.mp hy).1
      unfold asked at hy'
      simp only [List.mem_cons, List.not_mem_nil, or_false] at hy'
      rcases hy' with h | h | h | h | h | h <;> rw [h] <;> simp
theorem brk_len (r o : List Int) : (brkT r o).length ≤ 6 := by
  unfold brkT
  split
  · exact Nat.zero_le _
  · split
    · show 1 ≤ 6; decide
    · unfold clausesOf
      rw [List.length_map]
      exact Nat.le_trans (List.length_filter_le _ _) (show (asked r o).length ≤ 6 from Nat.le_refl _)
theorem Sh.brk (r o : List Int) : Sh 1 (6 * 22 + 3) (.tuple ((brkT r o).map PyData.str)) := by
  refine Sh.tup (n := 0) (c := 20) (fun d hd => ?_) (by rw [List.length_map]; exact brk_len r o)
  obtain ⟨x, hx, rfl⟩ := List.mem_map.mp hd
  refine Sh.str x ?_
  rcases brk_word hx with h | h | h | h | h | h | h <;> rw [h] <;> decide +kernel
theorem ddIntsG {H : Hp} : ∀ L : List Int, DdAll H (L.map V.int) (L.map PyData.int)
  | [] => .nil
  | i :: L => .cons (.int i) (ddIntsG L)
theorem ddStrsG {H : Hp} : ∀ L : List Str, DdAll H (L.map V.str) (L.map PyData.str)
  | [] => .nil
  | i :: L => .cons (.str i) (ddStrsG L)
end MG

/-! MG: runs of two, by doubling by rests -/
namespace MG
/-- both parted by the greatest number that parts each -/
def shares (a b : Nat) : Nat := (a + b) / Nat.gcd a b
def due (a b : Nat) : Option Nat := if shares a b / 2 ^ v2 (shares a b) > 1 then none else some (v2 (shares a b))
theorem gcd_rest {a b : Nat} : Nat.gcd a b = Nat.gcd a (a + b) := by rw [Nat.gcd_self_add_right]
theorem gcd_pow_two {f S : Nat} (hS : 0 < S) : Nat.gcd (2 ^ f) S = 2 ^ min f (v2 S) := by
  have hm := odd_rest hS
  have e := v2_split hS
  generalize hmm : S / 2 ^ v2 S = m at hm e
  generalize v2 S = t at e ⊢
  subst e
  have cop : Nat.Coprime (2 ^ f) m := by
    refine Nat.Coprime.pow_left f ?_
    rw [Nat.coprime_iff_gcd_eq_one, Nat.gcd_rec, hm]
    rfl
  rw [Nat.Coprime.gcd_mul_right_cancel_right (2 ^ t) cop.symm]
  by_cases h : f ≤ t
  · rw [Nat.min_eq_left h]
    exact Nat.gcd_eq_left (Nat.pow_dvd_pow 2 h)
  · rw [Nat.min_eq_right (by omega)]
    exact Nat.gcd_eq_right (Nat.pow_dvd_pow 2 (by omega))
section
variable {a b : Nat} (ha : 0 < a) (hb : 0 < b)
include ha hb
theorem shares_pos : 0 < shares a b := by
  have h1 : Nat.gcd a b ≤ a := Nat.le_of_dvd ha (Nat.gcd_dvd_left _ _)
  exact Nat.div_pos (by omega) (Nat.gcd_pos_of_pos_left _ ha)
theorem shares_mul : shares a b * Nat.gcd a b = a + b := by
  unfold shares
  refine Nat.div_mul_cancel ?_
  exact Nat.dvd_add (Nat.gcd_dvd_left _ _) (Nat.gcd_dvd_right _ _)
theorem shares_coprime : Nat.Coprime (a / Nat.gcd a b) (shares a b) := by
  have hg : 0 < Nat.gcd a b := Nat.gcd_pos_of_pos_left _ ha
  have h1 : shares a b = a / Nat.gcd a b + b / Nat.gcd a b := by
    unfold shares
    refine Nat.div_eq_of_eq_mul_right hg ?_
    rw [Nat.mul_add, Nat.mul_div_cancel' (Nat.gcd_dvd_left _ _), Nat.mul_div_cancel' (Nat.gcd_dvd_right _ _)]
  rw [h1, Nat.coprime_iff_gcd_eq_one, Nat.gcd_self_add_right]
  exact Nat.coprime_div_gcd_div_gcd hg
theorem gcd_doubled (f : Nat) : Nat.gcd (a * 2 ^ f) (a + b) = Nat.gcd a b * Nat.gcd (2 ^ f) (shares a b) := by
  have hg : 0 < Nat.gcd a b := Nat.gcd_pos_of_pos_left _ ha
  have e1 : a = Nat.gcd a b * (a / Nat.gcd a b) := (Nat.mul_div_cancel' (Nat.gcd_dvd_left _ _)).symm
  have e2 : a + b = Nat.gcd a b * shares a b := by rw [Nat.mul_comm]; exact (shares_mul ha hb).symm
  have c := shares_coprime ha hb
  generalize shares a b = S at e2 c ⊢
  rw [e2]
  generalize Nat.gcd a b = g at e1 c ⊢
  generalize a / g = A at e1 c
  subst e1
  rw [Nat.mul_assoc, Nat.gcd_mul_left, Nat.Coprime.gcd_mul_left_cancel _ c]
/-- what is left of the first one -/
theorem rest_pos {f : Nat} (h : due a b = none ∨ ∃ d, due a b = some d ∧ f < d) : 0 < a * 2 ^ f % (a + b) := by
  refine Nat.pos_of_ne_zero fun z => ?_
  have hd : (a + b) ∣ a * 2 ^ f := Nat.dvd_of_mod_eq_zero z
  have hS := shares_pos ha hb
  have e : Nat.gcd (a * 2 ^ f) (a + b) = a + b := Nat.gcd_eq_right hd
  rw [gcd_doubled ha hb, gcd_pow_two hS] at e
  have e2 := shares_mul ha hb
  have hg : 0 < Nat.gcd a b := Nat.gcd_pos_of_pos_left _ ha
  have e3 : 2 ^ min f (v2 (shares a b)) = shares a b := by
    rw [← e2, Nat.mul_comm] at e
    exact Nat.eq_of_mul_eq_mul_right hg e
  have hv : v2 (shares a b) = min f (v2 (shares a b)) := v2_unique (m := 1) (by rw [Nat.mul_one]; exact e3.symm) rfl
  have hle : v2 (shares a b) ≤ f := by omega
  have hone : shares a b / 2 ^ v2 (shares a b) = 1 := by
    rw [hv, e3]
    exact Nat.div_self hS
  have hdue : due a b = some (v2 (shares a b)) := by
    unfold due
    rw [if_neg (by rw [hone]; omega)]
  rcases h with h | ⟨d, h, hf⟩
  · rw [hdue] at h; cases h
  · rw [hdue] at h
    cases h
    omega
/-- how many deeds there are behind f of them -/
theorem due_rest {f : Nat} (hp : 0 < a * 2 ^ f % (a + b)) : due (a * 2 ^ f % (a + b)) (a + b - a * 2 ^ f % (a + b)) = (due a b).map (· - f) := by
  have hS := shares_pos ha hb
  have hlt : a * 2 ^ f % (a + b) < a + b := Nat.mod_lt _ (by omega)
  generalize hr : a * 2 ^ f % (a + b) = r at hp hlt ⊢
  have hg : Nat.gcd r (a + b - r) = Nat.gcd a b * 2 ^ min f (v2 (shares a b)) := by
    rw [gcd_rest, show r + (a + b - r) = a + b by omega, ← gcd_pow_two hS, ← gcd_doubled ha hb, ← hr]
    rw [Nat.gcd_comm (a * 2 ^ f), Nat.gcd_rec (a + b) (a * 2 ^ f)]
  have hS' : shares r (a + b - r) = shares a b / 2 ^ min f (v2 (shares a b)) := by
    show (r + (a + b - r)) / Nat.gcd r (a + b - r) = _
    rw [hg, show r + (a + b - r) = a + b by omega, ← Nat.div_div_eq_div_mul]
    rfl
  have e := v2_split hS
  have hm := odd_rest hS
  generalize hmm : shares a b / 2 ^ v2 (shares a b) = m at e hm
  have hS2 : shares r (a + b - r) = 2 ^ (v2 (shares a b) - min f (v2 (shares a b))) * m := by
    rw [hS']
    generalize v2 (shares a b) = t at e ⊢
    rw [e]
    refine Nat.div_eq_of_eq_mul_right (Nat.two_pow_pos _) ?_
    rw [← Nat.mul_assoc, ← Nat.pow_add, show min f t + (t - min f t) = t by omega]
  have hv : v2 (shares r (a + b - r)) = v2 (shares a b) - min f (v2 (shares a b)) := v2_unique hS2 hm
  have ho : shares r (a + b - r) / 2 ^ v2 (shares r (a + b - r)) = m := by
    rw [hv]
    exact Nat.div_eq_of_eq_mul_right (Nat.two_pow_pos _) hS2
  unfold due
  rw [ho, hv, hmm]
  by_cases h1 : m > 1
  · rw [if_pos h1, if_pos h1]; rfl
  · rw [if_neg h1, if_neg h1]
    refine congrArg some ?_
    show v2 (shares a b) - min f (v2 (shares a b)) = v2 (shares a b) - f
    omega
/-- the two rests are the whole -/
theorem rest_sum (f : Nat) : a * 2 ^ f % (a + b) = 0 ∧ b * 2 ^ f % (a + b) = 0 ∨ a * 2 ^ f % (a + b) + b * 2 ^ f % (a + b) = a + b := by
  have hs : 0 < a + b := by omega
  have h1 : (a * 2 ^ f + b * 2 ^ f) % (a + b) = 0 := by
    rw [← Nat.add_mul]
    exact Nat.mul_mod_right _ _
  rw [Nat.add_mod] at h1
  have l1 : a * 2 ^ f % (a + b) < a + b := Nat.mod_lt _ hs
  have l2 : b * 2 ^ f % (a + b) < a + b := Nat.mod_lt _ hs
  generalize a * 2 ^ f % (a + b) = x at h1 l1 ⊢
  generalize b * 2 ^ f % (a + b) = y at h1 l2 ⊢
  by_cases h : x + y < a + b
  · rw [Nat.mod_eq_of_lt h] at h1
    left; omega
  · right
    rw [Nat.mod_eq_sub_mod (by omega), Nat.mod_eq_of_lt (by omega)] at h1
    omega
end
end MG

/-! MG: a run is its deeds -/
namespace MG
open PySem PySem.Spec PyProof.Rows L2
/-- a statement, a word that holds behind it, the rest -/
def tMid (t u : TS) : TS := fun D σ H => ∃ M : L2.St → Hp → Prop, t { D with nx := M } σ H ∧ ∀ σ1 H1, M σ1 H1 → u D σ1 H1
theorem pss_mid {X : Cx} {st : Stmt} {rest : List Stmt} {t u : TS} (a : PS X st t) (b : PSs X rest u) : PSs X (st :: rest) (tMid t u) := by
  constructor
  rintro pins s σ H D I ⟨M, hm, hu⟩
  refine wpAny_execs_cons (thn (a.run pins s σ H { D with nx := M } I hm) ?_)
  intro fl s1 q
  cases fl with
  | next =>
    obtain ⟨σ1, H1, I1, w⟩ := q
    exact b.run pins s1 σ1 H1 D I1 (hu σ1 H1 w)
  | ret v => exact q
  | brk => exact q
  | cont => exact q
def setP (ns : List Int) (i j : Nat) (x : Int) : List Int := (ns.set i x).set j (ns.getD i 0 + ns.getD j 0 - x)
structure Two (ns : List Int) (i j p q : Nat) : Prop where
  hi : i < ns.length
  hj : j < ns.length
  ne : i ≠ j
  ei : ns.getD i 0 = p
  ej : ns.getD j 0 = q
  p0 : 0 < p
  q0 : 0 < q
theorem getD_set {l : List Int} {i j : Nat} {v : Int} (hi : i < l.length) : (l.set i v).getD j 0 = if i = j then v else l.getD j 0 := by
  rw [List.getD_eq_getElem?_getD]
  by_cases h : i = j
  · subst h
    rw [List.getElem?_set_self hi, if_pos rfl]; rfl
  · rw [List.getElem?_set_ne h, if_neg h, List.getD_eq_getElem?_getD]
theorem setP_i {ns : List Int} {i j p q : Nat} (T : Two ns i j p q) (x : Int) : (setP ns i j x).getD i 0 = x := by
  unfold setP
  rw [getD_set (by rw [List.length_set]; exact T.hj), if_neg T.ne.symm, getD_set T.hi, if_pos rfl]
theorem setP_j {ns : List Int} {i j p q : Nat} (T : Two ns i j p q) (x : Int) : (setP ns i j x).getD j 0 = p + q - x := by
  unfold setP
  rw [getD_set (by rw [List.length_set]; exact T.hj), if_pos rfl, T.ei, T.ej]
theorem setP_len (ns : List Int) (i j : Nat) (x : Int) : (setP ns i j x).length = ns.length := by
  unfold setP
  rw [List.length_set, List.length_set]
theorem setP_setP {ns : List Int} {i j p q : Nat} (T : Two ns i j p q) (x y : Int) : setP (setP ns i j x) i j y = setP ns i j y := by
  have h1 := setP_i T x
  have h2 := setP_j T x
  have e : setP (setP ns i j x) i j y = ((setP ns i j x).set i y).set j (p + q - y) := by
    show ((setP ns i j x).set i y).set j ((setP ns i j x).getD i 0 + (setP ns i j x).getD j 0 - y) = _
    rw [h1, h2]
    congr 1
    omega
  have e2 : setP ns i j y = (ns.set i y).set j (p + q - y) := by
    unfold setP
    rw [T.ei, T.ej]
  rw [e, e2]
  unfold setP
  rw [List.set_comm _ _ T.ne.symm, List.set_set, List.set_set]
theorem two_step {ns : List Int} {i j p q : Nat} (T : Two ns i j p q) : ∃ a b, MayG ns a b ∧ deed ns a b = setP ns i j ((2 * p % (p + q) : Nat) : Int) := by
  have hi := T.ei
  have hj := T.ej
  have p0 := T.p0
  have q0 := T.q0
  by_cases h : q ≤ p
  · refine ⟨i, j, ⟨T.hi, T.hj, T.ne, by omega, by omega⟩, ?_⟩
    have e : 2 * p % (p + q) = p - q := by
      rw [show 2 * p = (p - q) + (p + q) by omega, Nat.add_mod_right, Nat.mod_eq_of_lt (by omega)]
    unfold deed setP
    rw [hi, hj, e]
    congr 1
    · congr 1
      omega
    · omega
  · refine ⟨j, i, ⟨T.hj, T.hi, T.ne.symm, by omega, by omega⟩, ?_⟩
    have e : 2 * p % (p + q) = 2 * p := Nat.mod_eq_of_lt (by omega)
    unfold deed setP
    rw [hi, hj, e, List.set_comm _ _ T.ne]
    have e1 : ((2 * p : Nat) : Int) = 2 * (p : Int) := by omega
    rw [e1]
    congr 2
    omega
theorem run_lv {ns : List Int} {i j p q : Nat} (T : Two ns i j p q) (nn : ∀ n ∈ ns, 0 ≤ n) : ∀ k : Nat, (∀ m, m ≤ k → 0 < p * 2 ^ m % (p + q)) → Lv ns (setP ns i j ((p * 2 ^ (k + 1) % (p + q) : Nat) : Int))
  | 0, _ => by
    obtain ⟨a, b, m, e⟩ := two_step T
    have := deed_lv m nn
    rw [e] at this
    rw [show p * 2 ^ (0 + 1) = 2 * p by omega]
    exact this
  | k + 1, h => by
    have ih := run_lv T nn k fun m hm => h m (by omega)
    have hx := h (k + 1) (Nat.le_refl _)
    have hlt : p * 2 ^ (k + 1) % (p + q) < p + q := Nat.mod_lt _ (by have := T.p0; omega)
    generalize hxe : p * 2 ^ (k + 1) % (p + q) = x at ih hx hlt
    have T1 : Two (setP ns i j x) i j x (p + q - x) := ⟨by rw [setP_len]; exact T.hi, by rw [setP_len]; exact T.hj, T.ne, setP_i T x, by rw [setP_j T]; omega, hx, by omega⟩
    obtain ⟨a, b, m, e⟩ := two_step T1
    have h2 := deed_lv m ih.nn
    rw [e, setP_setP T] at h2
    have e2 : 2 * x % (x + (p + q - x)) = p * 2 ^ (k + 1 + 1) % (p + q) := by
      have e3 : p * 2 ^ (k + 1 + 1) = 2 * (p * 2 ^ (k + 1)) := by rw [Nat.pow_succ 2 (k + 1), ← Nat.mul_assoc, Nat.mul_comm]
      rw [show x + (p + q - x) = p + q by omega, ← hxe, e3]
      exact (Nat.mul_mod_mod _ _ _)
    rw [e2] at h2
    exact ih.trans h2
/-- so many deeds as may be done -/
theorem run_due {ns : List Int} {i j p q k : Nat} (T : Two ns i j p q) (nn : ∀ n ∈ ns, 0 ≤ n) (hk : 1 ≤ k) (hd : due p q = none ∨ ∃ d, due p q = some d ∧ k ≤ d) : Lv ns (setP ns i j ((p * 2 ^ k % (p + q) : Nat) : Int)) := by
  obtain ⟨m, rfl⟩ : ∃ m, k = m + 1 := ⟨k - 1, by omega⟩
  refine run_lv T nn m fun f hf => ?_
  have := T.p0
  have := T.q0
  refine rest_pos (by omega) (by omega) ?_
  rcases hd with h | ⟨d, h1, h2⟩
  · exact .inl h
  · exact .inr ⟨d, h1, by omega⟩
/-- the same told from the other one's side -/
theorem setP_rest {ns : List Int} {i j p q k : Nat} (T : Two ns i j p q) : setP ns i j ((p * 2 ^ k % (p + q) : Nat) : Int) = if 0 < q * 2 ^ k % (p + q) then (ns.set i ((p : Int) + q - (q * 2 ^ k % (p + q) : Nat))).set j ((q * 2 ^ k % (p + q) : Nat) : Int) else (ns.set i 0).set j ((p : Int) + q) := by
  have h := rest_sum (a := p) (b := q) T.p0 T.q0 k
  unfold setP
  rw [T.ei, T.ej]
  rcases h with ⟨h1, h2⟩ | h
  · rw [h1, h2, if_neg (by omega)]
    congr 1 <;> omega
  · have hlt : p * 2 ^ k % (p + q) < p + q := Nat.mod_lt _ (by have := T.p0; omega)
    rw [if_pos (by omega)]
    have e1 : ((p * 2 ^ k % (p + q) : Nat) : Int) = (p : Int) + q - (q * 2 ^ k % (p + q) : Nat) := by omega
    rw [e1]
    congr 1 <;> omega
theorem rep_one (z : Str) : repText z 1 = z := by
  unfold repText
  simp
/-- a text of one sign so many times, once too -/
theorem repS0 {X : Cx} : OpR X (binaryOp .Mult) (fun x y H Q => ∃ (z : Str) (n : Int), x = .str z ∧ y = .int n ∧ 1 ≤ n ∧ n ≤ 1000 ∧
    z.length = 1 ∧ (repText z n.toNat).length ≤ sizeLine ∧ Q (.str (repText z n.toNat)) H) := by
  rintro pins s σ H x y v u Q I rx ry ⟨z, n, hx, hy, h1, h2, hz, hs, q⟩
  by_cases h : n = 1
  · subst h
    subst hx hy
    obtain ⟨t, rfl⟩ := rx
    obtain ⟨t2, rfl⟩ := ry
    rw [show (1 : Int).toNat = 1 from rfl, rep_one] at q
    have c2 : ((1 : Int) == 1 || z.length == 0) = true := rfl
    refine PySem.P.mul_str rfl (fun _ e => by rw [c2] at e; cases e) (fun _ e => by rw [c2] at e; cases e) ?_
    rw [if_neg (by decide), if_pos c2]
    exact ⟨.str z, H, I, ⟨_, rfl⟩, q⟩
  · exact repS pins s σ H x y v u Q I rx ry ⟨z, n, hx, hy, by omega, h2, hz, hs, q⟩
theorem tens_text : ∀ n : Nat, n < 25 → 1 ≤ n → PySem.intText? (("1" : Str) ++ repText "0" n) = some (10 ^ n) ∧ (("1" : Str) ++ repText "0" n).length ≤ 640 ∧ (repText "0" n).length ≤ 640 := by
  decide +kernel
end MG

/-! MG: the clause pair -/
namespace MG
open PySem PySem.Spec PyProof.Rows L2
/-- behind how many deeds the other one has a, from x at this one, s together -/
def du (s a : Nat) : Nat → Nat → Nat → Option Nat
  | 0, _, _ => none
  | f + 1, x, k => if s - x = a then some k else if x = 0 then none else du s a f (2 * x % s) (k + 1)
def optV : Option Nat → V
  | none => .non
  | some d => .int d
def cb2 (p q oi oj : Nat) : Bool := if oj = 0 then (du (p + q) oi (p + q) q 0).isSome else (du (p + q) oj (p + q) p 0).isSome
def pairB (r o : List Int) : Bool :=
  match hold r r.length with
  | [i, j] => cb2 (r.getD i.toNat 0).toNat (r.getD j.toNat 0).toNat (o.getD i.toNat 0).toNat (o.getD j.toNat 0).toNat
  | _ => true
def brkF (r o : List Int) : List Str := if r = o then [] else if r.length ≠ o.length then ["places"] else if clausesOf r o ≠ [] ∨ 3 ≤ (hold r r.length).length then clausesOf r o else if pairB r o = true then [] else ["pair"]
theorem brkF_three {r o : List Int} (h : 3 ≤ (hold r r.length).length) : brkF r o = brkT r o := by
  unfold brkF brkT
  rw [if_pos (show clausesOf r o ≠ [] ∨ 3 ≤ (hold r r.length).length from .inr h)]
/-- what is asked of rows of two holders -/
def PairQ (r o : List Int) : Prop := ¬ r = o → r.length = o.length → clausesOf r o = [] → ¬ 3 ≤ (hold r r.length).length → (hold r r.length).length = 2 ∧ r.sum ≤ 100000
theorem PairQ.three {r o : List Int} (h : 3 ≤ (hold r r.length).length) : PairQ r o := fun _ _ _ z => absurd h z
theorem du_none {s a : Nat} : ∀ {f x k : Nat}, (∀ m, s - x * 2 ^ m % s ≠ a) → x < s → du s a f x k = none
  | 0, _, _, _, _ => rfl
  | f + 1, x, k, h, hx => by
    have h0 := h 0
    rw [Nat.pow_zero, Nat.mul_one, Nat.mod_eq_of_lt hx] at h0
    rw [du, if_neg h0]
    split
    · rfl
    · refine du_none (fun m => ?_) (Nat.mod_lt _ (by omega))
      have e : 2 * x % s * 2 ^ m % s = x * 2 ^ (m + 1) % s := by
        rw [Nat.mod_mul_mod, Nat.pow_succ, Nat.mul_comm 2 x, Nat.mul_assoc, Nat.mul_comm (2 ^ m) 2]
      rw [e]
      exact h (m + 1)
theorem hold_two {r : List Int} {i j : Int} (h : hold r r.length = [i, j]) : ∃ p q : Nat, i = p ∧ j = q ∧ p < r.length ∧ q < r.length ∧ p ≠ q ∧ 0 < r.getD p 0 ∧ 0 < r.getD q 0 := by
  obtain ⟨p, rfl, h1, h2⟩ := hold_get (ns := r) (x := i) (by rw [h]; simp)
  obtain ⟨q, rfl, h3, h4⟩ := hold_get (ns := r) (x := j) (by rw [h]; simp)
  refine ⟨p, q, rfl, rfl, h1, h3, fun z => ?_, h2, h4⟩
  subst z
  unfold hold at h
  have nd : (((List.range r.length).filter fun j => decide (0 < r.getD j 0)).map fun (j : Nat) => (j : Int)).Nodup := by
    refine List.Pairwise.map _ (fun a b hab => ?_) (List.Pairwise.filter _ List.nodup_range)
    intro z
    exact hab (by omega)
  rw [h] at nd
  simp at nd
theorem two_le_sum {r : List Int} {p q : Nat} (nn : ∀ n ∈ r, 0 ≤ n) (hp : p < r.length) (hq : q < r.length) (hne : p ≠ q) : r.getD p 0 + r.getD q 0 ≤ r.sum := by
  have h1 := sum_setG r p hp 0
  have nn1 : ∀ n ∈ r.set p 0, 0 ≤ n := fun n hn => by
    rcases List.mem_or_eq_of_mem_set hn with hn | rfl
    · exact nn n hn
    · exact Int.le_refl _
  have hq' : q < (r.set p 0).length := by rw [List.length_set]; exact hq
  have h2 := mem_le_sumG nn1 _ (getD_mem hq')
  rw [getD_set hp, if_neg hne] at h2
  rw [← getD_eq hp] at h1
  omega
end MG

/-! MG: clauses of rows many times; rows of unit 1 -/
namespace MG
open PySem PySem.Spec PyProof.Rows L2
theorem v2_mul {a b : Nat} (ha : 0 < a) (hb : 0 < b) : v2 (a * b) = v2 a + v2 b := by
  have h1 := v2_split ha
  have h2 := v2_split hb
  have o1 := odd_rest ha
  have o2 := odd_rest hb
  refine v2_unique (m := (a / 2 ^ v2 a) * (b / 2 ^ v2 b)) ?_ ?_
  · rw [Nat.pow_add]
    calc a * b = (2 ^ v2 a * (a / 2 ^ v2 a)) * (2 ^ v2 b * (b / 2 ^ v2 b)) := by rw [← h1, ← h2]
      _ = _ := by rw [Nat.mul_assoc, Nat.mul_assoc, Nat.mul_left_comm (a / 2 ^ v2 a)]
  · rw [Nat.mul_mod, o1, o2]
theorem odd_mul {a b : Nat} (ha : 0 < a) (hb : 0 < b) : a * b / 2 ^ v2 (a * b) = (a / 2 ^ v2 a) * (b / 2 ^ v2 b) := by
  have h1 := v2_split ha
  have h2 := v2_split hb
  rw [v2_mul ha hb, Nat.pow_add]
  refine Nat.div_eq_of_eq_mul_right (Nat.mul_pos (Nat.two_pow_pos _) (Nat.two_pow_pos _)) ?_
  calc a * b = (2 ^ v2 a * (a / 2 ^ v2 a)) * (2 ^ v2 b * (b / 2 ^ v2 b)) := by rw [← h1, ← h2]
    _ = _ := by rw [Nat.mul_assoc, Nat.mul_assoc, Nat.mul_left_comm (a / 2 ^ v2 a)]
def sc (c : Int) (r : List Int) : List Int := r.map fun n => c * n
theorem sc_len (c : Int) (r : List Int) : (sc c r).length = r.length := List.length_map _
theorem sc_inj {c : Int} (hc : 0 < c) : ∀ {r o : List Int}, sc c r = sc c o → r = o
  | [], [], _ => rfl
  | [], _ :: _, h => nomatch h
  | _ :: _, [], h => nomatch h
  | x :: r, y :: o, h => by
    have h1 : c * x = c * y := (List.cons.inj h).1
    have h2 : sc c r = sc c o := (List.cons.inj h).2
    rw [Int.eq_of_mul_eq_mul_left (by omega) h1, sc_inj hc h2]
theorem sc_sum (c : Int) : ∀ r : List Int, (sc c r).sum = c * r.sum
  | [] => by show (0 : Int) = c * 0; omega
  | x :: r => by
    have ih := sc_sum c r
    show c * x + (sc c r).sum = c * (x + r.sum)
    rw [ih, Int.mul_add]
theorem dec_iff {p q : Prop} [Decidable p] [Decidable q] (h : p ↔ q) : decide p = decide q := by
  by_cases hp : p
  · rw [decide_eq_true hp, decide_eq_true (h.mp hp)]
  · rw [decide_eq_false hp, decide_eq_false (fun z => hp (h.mpr z))]
theorem mul_pos_iff' {c n : Int} (hc : 0 < c) : 0 < c * n ↔ 0 < n := by
  constructor
  · intro h
    by_cases z : 0 < n
    · exact z
    · have := Int.mul_nonpos_of_nonneg_of_nonpos (show 0 ≤ c by omega) (show n ≤ 0 by omega)
      omega
  · exact fun h => Int.mul_pos hc h
theorem sc_hfn {c : Int} (hc : 0 < c) : ∀ r o : List Int, hfn (sc c r) (sc c o) = hfn r o
  | [], _ => rfl
  | _ :: _, [] => rfl
  | x :: r, y :: o => by
    have ih := sc_hfn hc r o
    unfold hfn at ih ⊢
    show ((decide (c * x = 0) && decide (c * y > 0)) || _) = ((decide (x = 0) && decide (y > 0)) || _)
    have e1 : decide (c * x = 0) = decide (x = 0) := dec_iff (by
      constructor
      · intro h
        rcases Int.mul_eq_zero.mp h with h | h
        · omega
        · exact h
      · intro h; rw [h, Int.mul_zero])
    have e2 : decide (c * y > 0) = decide (y > 0) := dec_iff (mul_pos_iff' hc)
    rw [e1, e2]
    congr 1
theorem sc_cnt {c : Int} (hc : 0 < c) (r : List Int) : cnt (sc c r) = cnt r := by
  unfold cnt sc
  rw [List.filter_map, List.length_map]
  congr 1
  refine List.filter_congr fun n _ => ?_
  show decide (0 < c * n) = decide (0 < n)
  exact dec_iff (mul_pos_iff' hc)
theorem sc_hold {c : Int} (hc : 0 < c) (r : List Int) : (hold (sc c r) (sc c r).length).length = (hold r r.length).length := by
  rw [← cnt_hold, ← cnt_hold, sc_cnt hc]
theorem sc_gl {c : Int} (hc : 0 < c) {r : List Int} (nn : ∀ n ∈ r, 0 ≤ n) : gl (sc c r) = c.toNat * gl r := gl_mul c (by omega) nn
theorem ms_nat (r : List Int) : ms r = ((gl r / 2 ^ v2 (gl r) : Nat) : Int) := by
  unfold ms
  rw [Int.natCast_ediv, Int.natCast_pow]; rfl
theorem sc_ms {c : Int} (hc : 0 < c) {r : List Int} (nn : ∀ n ∈ r, 0 ≤ n) (h0 : 0 < gl r) : ms (sc c r) = ((c.toNat / 2 ^ v2 c.toNat * (gl r / 2 ^ v2 (gl r)) : Nat) : Int) := by
  rw [ms_nat, sc_gl hc nn, odd_mul (by omega) h0]
theorem sc_v2 {c : Int} (hc : 0 < c) {r : List Int} (nn : ∀ n ∈ r, 0 ≤ n) (h0 : 0 < gl r) : v2 (gl (sc c r)) = v2 c.toNat + v2 (gl r) := by
  rw [sc_gl hc nn, v2_mul (by omega) h0]
theorem sc_od {c : Int} (hc : 0 < c) {r : List Int} (nn : ∀ n ∈ r, 0 ≤ n) (h0 : 0 < gl r) : od (sc c r) = od r := by
  unfold od fewT
  rw [sc_v2 hc nn h0]
  unfold sc
  rw [List.filter_map, List.length_map]
  congr 1
  refine List.filter_congr fun n hn => ?_
  show (decide (c * n > 0) && decide (v2 (c * n).toNat ≤ v2 c.toNat + v2 (gl r))) = (decide (n > 0) && decide (v2 n.toNat ≤ v2 (gl r)))
  have hn0 := nn n hn
  by_cases z : 0 < n
  · rw [decide_eq_true ((mul_pos_iff' hc).mpr z), decide_eq_true (show n > 0 from z), Int.toNat_mul (by omega) hn0, v2_mul (by omega) (by omega)]
    congr 1
    exact dec_iff (by omega)
  · rw [decide_eq_false (fun y => z ((mul_pos_iff' hc).mp y)), decide_eq_false (show ¬ n > 0 from z)]
    rfl
theorem sc_clauses {c : Int} (hc : 0 < c) {r o : List Int} (nr : ∀ n ∈ r, 0 ≤ n) (no : ∀ n ∈ o, 0 ≤ n) (hr : 0 < gl r) (ho : 0 < gl o) : clausesOf (sc c r) (sc c o) = clausesOf r o := by
  unfold clausesOf asked
  rw [sc_sum, sc_sum, sc_hfn hc, sc_v2 hc nr hr, sc_v2 hc no ho, sc_od hc nr hr, sc_od hc no ho, sc_hold hc]
  have e1 : decide (c * o.sum ≠ c * r.sum) = decide (o.sum ≠ r.sum) := dec_iff (by
    constructor
    · exact fun h z => h (by rw [z])
    · exact fun h z => h (Int.eq_of_mul_eq_mul_left (by omega) z))
  have pc : 0 < c.toNat / 2 ^ v2 c.toNat := by
    have h1 := odd_rest (n := c.toNat) (by omega)
    rcases Nat.eq_zero_or_pos (c.toNat / 2 ^ v2 c.toNat) with h | h
    · rw [h] at h1; cases h1
    · exact h
  have e3 : decide (ms (sc c o) ≠ ms (sc c r)) = decide (ms o ≠ ms r) := by
    rw [sc_ms hc no ho, sc_ms hc nr hr, ms_nat o, ms_nat r]
    refine dec_iff ?_
    constructor
    · intro h z
      exact h (by rw [Int.ofNat_inj.mp z])
    · intro h z
      have := Nat.eq_of_mul_eq_mul_left pc (Int.ofNat_inj.mp z)
      exact h (by rw [this])
  have e4 : decide (v2 c.toNat + v2 (gl o) < v2 c.toNat + v2 (gl r)) = decide (v2 (gl o) < v2 (gl r)) := dec_iff (by omega)
  have e5 : decide (v2 c.toNat + v2 (gl o) = v2 c.toNat + v2 (gl r)) = decide (v2 (gl o) = v2 (gl r)) := dec_iff (by omega)
  rw [e1, e3, e4, e5]
theorem sc_brk {c : Int} (hc : 0 < c) {r o : List Int} (nr : ∀ n ∈ r, 0 ≤ n) (no : ∀ n ∈ o, 0 ≤ n) (hr : 0 < gl r) (ho : 0 < gl o) : brkT (sc c r) (sc c o) = brkT r o := by
  unfold brkT
  rw [sc_len, sc_len, sc_clauses hc nr no hr ho]
  by_cases h : r = o
  · rw [if_pos h, if_pos (by rw [h])]
  · rw [if_neg h, if_neg (fun z => h (sc_inj hc z))]
/-! ### rows of unit 1 -/
def oddc (l : List Int) : Nat := (l.filter fun n => decide (n % 2 = 1)).length
theorem few0 {l : List Int} (nn : ∀ n ∈ l, 0 ≤ n) : (fewT 0 l).length = oddc l := by
  unfold fewT oddc
  congr 1
  refine List.filter_congr fun n hn => ?_
  have h0 := nn n hn
  by_cases z : n % 2 = 1
  · rw [decide_eq_true z, decide_eq_true (show n > 0 by omega), decide_eq_true (show v2 n.toNat ≤ 0 by rw [v2_odd (by omega)]; exact Nat.le_refl _)]
    rfl
  · rw [decide_eq_false z]
    by_cases y : n > 0
    · rw [decide_eq_true y, decide_eq_false (show ¬ v2 n.toNat ≤ 0 by rw [v2_even (by omega) (by omega)]; omega)]; rfl
    · rw [decide_eq_false y]; rfl
theorem odd_sum : ∀ {l : List Int}, l.sum % 2 = (oddc l : Int) % 2
  | [] => rfl
  | x :: l => by
    have ih := odd_sum (l := l)
    rw [List.sum_cons]
    unfold oddc at ih ⊢
    by_cases h : x % 2 = 1
    · rw [List.filter_cons_of_pos (by simpa using h), List.length_cons]; omega
    · rw [List.filter_cons_of_neg (by simpa using h)]; omega
theorem oddc_perm {a b : List Int} (h : a.Perm b) : oddc a = oddc b := (h.filter _).length_eq
theorem oddc_append (a b : List Int) : oddc (a ++ b) = oddc a + oddc b := by
  unfold oddc
  rw [List.filter_append, List.length_append]
theorem oddc_zeros (k : Nat) : oddc (List.replicate k 0) = 0 := by
  unfold oddc
  rw [List.filter_eq_nil_iff.mpr (fun n hn => by rw [List.eq_of_mem_replicate hn]; decide)]; rfl
theorem cnt_append (a b : List Int) : cnt (a ++ b) = cnt a + cnt b := by
  unfold cnt
  rw [List.filter_append, List.length_append]
theorem cnt_zeros (k : Nat) : cnt (List.replicate k 0) = 0 := by
  unfold cnt
  rw [List.filter_eq_nil_iff.mpr (fun n hn => by rw [List.eq_of_mem_replicate hn]; decide)]; rfl
theorem cnt_perm {a b : List Int} (h : a.Perm b) : cnt a = cnt b := (h.filter _).length_eq
/-- a row: its unit's twos t, its measure m -/
structure Ru (r : List Int) (S : Int) (g k c : Nat) : Prop where
  nn : ∀ n ∈ r, 0 ≤ n
  sum : r.sum = S
  gl : gl r = g
  odd : oddc r = k
  cnt : MG.cnt r = c
theorem Ru.perm {a b : List Int} {S : Int} {g k c m : Nat} (h : Ru a S g k c) (pm : b.Perm (a ++ List.replicate m 0)) : Ru b S g k c := by
  refine ⟨fun n hn => ?_, ?_, ?_, ?_, ?_⟩
  · rcases List.mem_append.mp (pm.mem_iff.mp hn) with z | z
    · exact h.nn n z
    · rw [List.eq_of_mem_replicate z]; exact Int.le_refl _
  · have e : ∀ {x y : List Int}, x.Perm y → x.sum = y.sum := fun hp => by
      induction hp with
      | nil => rfl
      | cons x _ ih => rw [List.sum_cons, List.sum_cons, ih]
      | swap x y l => rw [List.sum_cons, List.sum_cons, List.sum_cons, List.sum_cons]; omega
      | trans _ _ i1 i2 => rw [i1, i2]
    have z : ∀ k : Nat, (List.replicate k (0 : Int)).sum = 0 := fun k => by
      induction k with
      | zero => rfl
      | succ k ih => rw [List.replicate_succ, List.sum_cons, ih]; rfl
    rw [e pm, List.sum_append, z, h.sum]; omega
  · rw [gl_perm pm, gl_append, gl_zeros, Nat.gcd_zero_right, h.gl]
  · rw [oddc_perm pm, oddc_append, oddc_zeros, h.odd]; rfl
  · rw [cnt_perm pm, cnt_append, cnt_zeros, h.cnt]; rfl
/-- of two rows of odd units -/
theorem cl_odd {r o : List Int} {S S' : Int} {g g' k k' c c' : Nat} (a : Ru r S g k c) (b : Ru o S' g' k' c') (hg : g % 2 = 1) (hg' : g' % 2 = 1) :
    clausesOf r o = (([("sum", decide (S' ≠ S)), ("nothing", hfn r o), ("measure", decide (g' ≠ g)), ("odd ones", decide (k < k')), ("doubled", decide (k' = c'))] : List (Str × Bool)).filter fun p => p.2).map fun p => p.1 := by
  have v1 : v2 (MG.gl r) = 0 := by rw [a.gl]; exact v2_odd hg
  have w1 : v2 (MG.gl o) = 0 := by rw [b.gl]; exact v2_odd hg'
  have o1 : od r = k := by unfold od; rw [v1, few0 a.nn, a.odd]
  have o2 : od o = k' := by unfold od; rw [w1, few0 b.nn, b.odd]
  have m1 : ms r = (g : Int) := by rw [ms_nat, v1, a.gl, Nat.pow_zero, Nat.div_one]
  have m2 : ms o = (g' : Int) := by rw [ms_nat, w1, b.gl, Nat.pow_zero, Nat.div_one]
  unfold clausesOf asked
  rw [a.sum, b.sum, m1, m2, v1, w1, o1, o2, ← cnt_hold, b.cnt]
  have e3 : decide ((g' : Int) ≠ g) = decide (g' ≠ g) := dec_iff (by omega)
  rw [e3, decide_eq_false (show ¬ 0 < 0 by omega), decide_eq_true (show 0 = 0 from rfl), Bool.true_and, Bool.true_and]
  rfl
/-- the row's unit twice an odd one, the other one's odd -/
theorem cl_twos {r o : List Int} {S : Int} {g k k' c c' : Nat} (a : Ru r S (2 * g) k c) (b : Ru o S g k' c') (hg : g % 2 = 1) (hh : hfn r o = false) : clausesOf r o = (["twos"] : List Str) := by
  have v1 : v2 (MG.gl r) = 1 := by rw [a.gl, v2_mul2 (by omega), v2_odd hg]
  have w1 : v2 (MG.gl o) = 0 := by rw [b.gl]; exact v2_odd hg
  have m1 : ms r = (g : Int) := by rw [ms_nat, v1, a.gl, Nat.pow_one, Nat.mul_div_cancel_left _ (by decide)]
  have m2 : ms o = (g : Int) := by rw [ms_nat, w1, b.gl, Nat.pow_zero, Nat.div_one]
  unfold clausesOf asked
  rw [a.sum, b.sum, m1, m2, v1, w1, hh, decide_eq_false (show ¬ (S ≠ S) from fun z => z rfl), decide_eq_false (show ¬ ((g : Int) ≠ g) from fun z => z rfl), decide_eq_false (show ¬ 0 = 1 by decide)]
  rfl
end MG

namespace K84
open PySem PySem.Spec PyProof.Rows L2 MG
/-- a statement, a word that holds behind it, the rest -/
def tMid (t u : TS) : TS := fun D σ H => ∃ M : L2.St → Hp → Prop, t { D with nx := M } σ H ∧ ∀ σ1 H1, M σ1 H1 → u D σ1 H1
theorem pss_mid {X : Cx} {st : Stmt} {rest : List Stmt} {t u : TS} (a : PS X st t) (b : PSs X rest u) : PSs X (st :: rest) (tMid t u) := by
  constructor
  rintro pins s σ H D I ⟨M, hm, hu⟩
  refine wpAny_execs_cons (thn (a.run pins s σ H { D with nx := M } I hm) ?_)
  intro fl s1 q
  cases fl with
  | next =>
    obtain ⟨σ1, H1, I1, w⟩ := q
    exact b.run pins s1 σ1 H1 D I1 (hu σ1 H1 w)
  | ret v => exact q
  | brk => exact q
  | cont => exact q
end K84

/-! MG: two holders: what comes of doublings by rests -/
namespace MG
open PySem PySem.Spec PyProof.Rows L2
theorem few_below : ∀ (s : Nat) (l : List Nat), l.Nodup → (∀ x ∈ l, x < s) → l.length ≤ s
  | 0, [], _, _ => Nat.le_refl _
  | 0, x :: _, _, h => absurd (h x (by simp)) (by omega)
  | s + 1, l, nd, h => by
    by_cases hm : s ∈ l
    · have h1 := few_below s (l.erase s) (nd.erase s) fun x hx => by
        obtain ⟨h1, h2⟩ := nd.mem_erase_iff.mp hx
        have := h x h2
        omega
      rw [List.length_erase_of_mem hm] at h1
      omega
    · have h1 := few_below s l nd fun x hx => by
        have := h x hx
        have : x ≠ s := fun z => hm (z ▸ hx)
        omega
      omega
theorem again {f : Nat → Nat} {s : Nat} (hf : ∀ n, f n < s) : ∃ i j, i < j ∧ j ≤ s ∧ f i = f j := by
  apply Classical.byContradiction
  intro h
  have nd : ((List.range (s + 1)).map f).Nodup := by
    rw [List.nodup_iff_pairwise_ne, List.pairwise_map]
    refine List.Pairwise.imp_of_mem ?_ List.pairwise_lt_range
    intro i j hi hj hij z
    exact h ⟨i, j, hij, by have := List.mem_range.mp hj; omega, z⟩
  have := few_below s _ nd fun x hx => by
    obtain ⟨n, _, rfl⟩ := List.mem_map.mp hx
    exact hf n
  rw [List.length_map, List.length_range] at this
  omega
theorem soon {f g : Nat → Nat} {s : Nat} (hf : ∀ n, f n < s) (hg : ∀ n, f (n + 1) = g (f n)) : ∀ m, ∃ m', m' < s ∧ f m' = f m := by
  obtain ⟨i, j, hij, hj, e⟩ := again hf
  have sh : ∀ k, f (i + k) = f (j + k) := fun k => by
    induction k with
    | zero => exact e
    | succ k ih => rw [← Nat.add_assoc, ← Nat.add_assoc, hg, hg, ih]
  intro m
  induction m using Nat.strongRecOn with
  | ind m ih =>
    by_cases hm : m < s
    · exact ⟨m, hm, rfl⟩
    · obtain ⟨m', h1, h2⟩ := ih (i + (m - j)) (by omega)
      refine ⟨m', h1, ?_⟩
      rw [h2, sh, show j + (m - j) = m by omega]
theorem dbl (s x m : Nat) : 2 * x % s * 2 ^ m % s = x * 2 ^ (m + 1) % s := by
  rw [Nat.mod_mul_mod, Nat.pow_succ, Nat.mul_comm 2 x, Nat.mul_assoc, Nat.mul_comm (2 ^ m) 2]
theorem du_some {s a : Nat} : ∀ {f x k : Nat} (m : Nat), m < f → x < s → s - x * 2 ^ m % s = a → (du s a f x k).isSome = true
  | f + 1, x, k, m, hm, hx, e => by
    rw [du]
    split
    · rfl
    · rename_i h0
      cases m with
      | zero =>
        rw [Nat.pow_zero, Nat.mul_one, Nat.mod_eq_of_lt hx] at e
        exact absurd e h0
      | succ m =>
        split
        · rename_i hz
          rw [hz, Nat.zero_mul, Nat.zero_mod] at e
          rw [hz] at h0
          exact absurd e h0
        · refine du_some m (by omega) (Nat.mod_lt _ (by omega)) ?_
          rw [dbl]; exact e
/-- within as many steps as there are rests -/
theorem du_iff {s a x k : Nat} (hx : x < s) : (du s a s x k).isSome = true ↔ ∃ m, s - x * 2 ^ m % s = a := by
  constructor
  · intro h
    apply Classical.byContradiction
    intro z
    rw [du_none (fun m e => z ⟨m, e⟩) hx] at h
    cases h
  · rintro ⟨m, e⟩
    obtain ⟨m', h1, h2⟩ := soon (f := fun m => x * 2 ^ m % s) (g := fun y => y * 2 % s) (s := s) (fun n => Nat.mod_lt _ (by omega)) (fun n => by
      show x * 2 ^ (n + 1) % s = x * 2 ^ n % s * 2 % s
      rw [Nat.mod_mul_mod, Nat.pow_succ, Nat.mul_assoc]) m
    have h2' : x * 2 ^ m' % s = x * 2 ^ m % s := h2
    exact du_some m' h1 hx (by rw [h2']; exact e)
/-- the first one's amount behind m doublings, by rests of the sum -/
def Pr (p q u v : Nat) : Prop := ∃ m, p * 2 ^ m % (p + q) = u % (p + q) ∧ u + v = p + q
theorem neg_rest {p q : Nat} (m : Nat) : (p * 2 ^ m % (p + q) + q * 2 ^ m % (p + q)) % (p + q) = 0 := by
  rw [← Nat.add_mod, ← Nat.add_mul]
  exact Nat.mul_mod_right _ _
theorem neg_eq {p q u v m : Nat} (h : 0 < p + q) (e : u + v = p + q) : p * 2 ^ m % (p + q) = u % (p + q) ↔ q * 2 ^ m % (p + q) = v % (p + q) := by
  have h1 := neg_rest (p := p) (q := q) m
  have a1 : p * 2 ^ m % (p + q) < p + q := Nat.mod_lt _ h
  have a2 : q * 2 ^ m % (p + q) < p + q := Nat.mod_lt _ h
  generalize p * 2 ^ m % (p + q) = x at h1 a1 ⊢
  generalize q * 2 ^ m % (p + q) = y at h1 a2 ⊢
  generalize p + q = s at *
  have hxy : x + y = 0 ∨ x + y = s := by
    have h2 : x + y < s + s := by omega
    by_cases z : x + y < s
    · rw [Nat.mod_eq_of_lt z] at h1; exact .inl h1
    · rw [Nat.mod_eq_sub_mod (by omega), Nat.mod_eq_of_lt (by omega)] at h1; exact .inr (by omega)
  by_cases hu : u = s
  · have hv : v = 0 := by omega
    rw [hu, hv, Nat.mod_self, Nat.zero_mod]; omega
  · by_cases hv : v = s
    · have hu0 : u = 0 := by omega
      rw [hv, hu0, Nat.mod_self, Nat.zero_mod]; omega
    · rw [Nat.mod_eq_of_lt (show u < s by omega), Nat.mod_eq_of_lt (show v < s by omega)]; omega
theorem Pr.swap {p q u v : Nat} (h : 0 < p + q) : Pr p q u v ↔ Pr q p v u := by
  constructor
  · rintro ⟨m, e, s⟩
    exact ⟨m, by rw [Nat.add_comm q p]; exact (neg_eq h s).mp e, by omega⟩
  · rintro ⟨m, e, s⟩
    rw [Nat.add_comm q p] at e s
    exact ⟨m, (neg_eq h (by omega)).mpr e, by omega⟩
theorem sub_mod {s x u v : Nat} (hx : x < s) (e : u + v = s) (hv : v ≠ 0) : s - x = v ↔ x = u % s := by
  rw [Nat.mod_eq_of_lt (show u < s by omega)]; omega
theorem cb_iff {p q u v : Nat} (hp : 0 < p) (hq : 0 < q) (e : u + v = p + q) : cb2 p q u v = true ↔ Pr p q u v := by
  have hs : 0 < p + q := by omega
  unfold cb2
  by_cases hv : v = 0
  · rw [if_pos hv, du_iff (by omega), Pr.swap hs]
    constructor
    · rintro ⟨m, h⟩
      exact ⟨m, by rw [Nat.add_comm q p]; exact (sub_mod (Nat.mod_lt _ hs) (show v + u = p + q by omega) (by omega)).mp h, by omega⟩
    · rintro ⟨m, h, _⟩
      rw [Nat.add_comm q p] at h
      exact ⟨m, (sub_mod (Nat.mod_lt _ hs) (show v + u = p + q by omega) (by omega)).mpr h⟩
  · rw [if_neg hv, du_iff (by omega)]
    constructor
    · rintro ⟨m, h⟩
      exact ⟨m, (sub_mod (Nat.mod_lt _ hs) e hv).mp h, e⟩
    · rintro ⟨m, h, _⟩
      exact ⟨m, (sub_mod (Nat.mod_lt _ hs) e hv).mpr h⟩
theorem Pr.refl (p q : Nat) : Pr p q p q := ⟨0, by rw [Nat.pow_zero, Nat.mul_one], rfl⟩
theorem Pr.trans {p q u v a b : Nat} (h1 : Pr p q u v) (h2 : Pr u v a b) : Pr p q a b := by
  obtain ⟨m, e1, s1⟩ := h1
  obtain ⟨n, e2, s2⟩ := h2
  rw [s1] at e2 s2
  refine ⟨m + n, ?_, s2⟩
  rw [Nat.pow_add, ← Nat.mul_assoc, ← Nat.mod_mul_mod, e1, Nat.mod_mul_mod]
  exact e2
/-- a deed -/
theorem Pr.deed {p q : Nat} (h : q ≤ p) : Pr p q (p - q) (2 * q) := by
  refine ⟨1, ?_, by omega⟩
  rw [Nat.pow_one, show p * 2 = p - q + (p + q) by omega, Nat.add_mod_right]
theorem Pr.deed' {p q : Nat} (h : p ≤ q) : Pr p q (2 * p) (q - p) := by
  refine ⟨1, ?_, by omega⟩
  rw [Nat.pow_one, Nat.mul_comm]
theorem Pr.mul {p q u v c : Nat} (hc : 0 < c) : Pr (c * p) (c * q) (c * u) (c * v) ↔ Pr p q u v := by
  constructor
  · rintro ⟨m, e, s⟩
    rw [← Nat.mul_add] at e s
    rw [Nat.mul_assoc, Nat.mul_mod_mul_left, Nat.mul_mod_mul_left] at e
    rw [← Nat.mul_add] at s
    exact ⟨m, Nat.eq_of_mul_eq_mul_left hc e, Nat.eq_of_mul_eq_mul_left hc s⟩
  · rintro ⟨m, e, s⟩
    refine ⟨m, ?_, by rw [← Nat.mul_add, ← Nat.mul_add, s]⟩
    rw [← Nat.mul_add, Nat.mul_assoc, Nat.mul_mod_mul_left, Nat.mul_mod_mul_left, e]
end MG

/-! MG: the broken clauses of rows laid in another order, with nothings, many times -/
namespace MG
open PySem PySem.Spec PyProof.Rows L2
/-- two entries whose first ones have something, the first pair's second ones come of them -/
def PH (Z : List (Int × Int)) : Prop := ∃ a b rest, Z.Perm (a :: b :: rest) ∧ 0 < a.1 ∧ 0 < b.1 ∧ Pr a.1.toNat b.1.toNat a.2.toNat b.2.toNat
/-- two pairs of rows, one laid from the other with nothings beside -/
structure Alike (r o r' o' : List Int) (k : Nat) : Prop where
  l : r.length = o.length
  l' : r'.length = o'.length
  pm : (r'.zip o').Perm (r.zip o ++ List.replicate k (0, 0))
theorem zipF : ∀ {r o : List Int}, r.length = o.length → (r.zip o).map Prod.fst = r
  | [], [], _ => rfl
  | x :: r, y :: o, h => by
    rw [List.zip_cons_cons, List.map_cons, zipF (by simpa using h)]
theorem zipS : ∀ {r o : List Int}, r.length = o.length → (r.zip o).map Prod.snd = o
  | [], [], _ => rfl
  | x :: r, y :: o, h => by
    rw [List.zip_cons_cons, List.map_cons, zipS (by simpa using h)]
theorem Alike.fst {r o r' o' : List Int} {k : Nat} (h : Alike r o r' o' k) : r'.Perm (r ++ List.replicate k 0) := by
  have := h.pm.map Prod.fst
  rw [List.map_append, zipF h.l, zipF h.l', List.map_replicate] at this
  exact this
theorem Alike.snd {r o r' o' : List Int} {k : Nat} (h : Alike r o r' o' k) : o'.Perm (o ++ List.replicate k 0) := by
  have := h.pm.map Prod.snd
  rw [List.map_append, zipS h.l, zipS h.l', List.map_replicate] at this
  exact this
theorem gl_more {a b : List Int} {k : Nat} (h : b.Perm (a ++ List.replicate k 0)) : gl b = gl a := by
  rw [gl_perm h, gl_append, gl_zeros, Nat.gcd_zero_right]
theorem cnt_more {a b : List Int} {k : Nat} (h : b.Perm (a ++ List.replicate k 0)) : cnt b = cnt a := by
  rw [cnt_perm h, cnt_append, cnt_zeros]; rfl
theorem sum_more {a b : List Int} {k : Nat} (h : b.Perm (a ++ List.replicate k 0)) : b.sum = a.sum := by
  have e : ∀ {x y : List Int}, x.Perm y → x.sum = y.sum := fun hp => by
    induction hp with
    | nil => rfl
    | cons x _ ih => rw [List.sum_cons, List.sum_cons, ih]
    | swap x y l => rw [List.sum_cons, List.sum_cons, List.sum_cons, List.sum_cons]; omega
    | trans _ _ i1 i2 => rw [i1, i2]
  have z : ∀ k : Nat, (List.replicate k (0 : Int)).sum = 0 := fun k => by
    induction k with
    | zero => rfl
    | succ k ih => rw [List.replicate_succ, List.sum_cons, ih]; rfl
  rw [e h, List.sum_append, z]; omega
theorem od_more {a b : List Int} {k : Nat} (h : b.Perm (a ++ List.replicate k 0)) : od b = od a := by
  unfold od
  rw [gl_more h, fewT_perm h]
  have : fewT (v2 (gl a)) (a ++ List.replicate k 0) = fewT (v2 (gl a)) a ++ fewT (v2 (gl a)) (List.replicate k 0) := by
    unfold fewT
    rw [List.filter_append]
  rw [this, fewT_zeros, List.append_nil]
theorem ms_more {a b : List Int} {k : Nat} (h : b.Perm (a ++ List.replicate k 0)) : ms b = ms a := by
  unfold ms
  rw [gl_more h]
theorem any_perm {α : Type} {p : α → Bool} {a b : List α} (h : a.Perm b) : a.any p = b.any p := by
  have e : ∀ c : List α, c.any p = true ↔ ∃ x ∈ c, p x = true := fun c => List.any_eq_true
  by_cases hb : b.any p = true
  · obtain ⟨x, hx, px⟩ := (e b).mp hb
    rw [hb]
    exact (e a).mpr ⟨x, h.mem_iff.mpr hx, px⟩
  · have : ¬ a.any p = true := fun z => by
      obtain ⟨x, hx, px⟩ := (e a).mp z
      exact hb ((e b).mpr ⟨x, h.mem_iff.mp hx, px⟩)
    rw [Bool.not_eq_true] at hb this
    rw [hb, this]
theorem Alike.hfn {r o r' o' : List Int} {k : Nat} (h : Alike r o r' o' k) : hfn r' o' = hfn r o := by
  unfold MG.hfn
  rw [any_perm h.pm, List.any_append]
  have : (List.replicate k ((0 : Int), (0 : Int))).any (fun p => decide (p.1 = 0) && decide (p.2 > 0)) = false := by
    rw [List.any_eq_false]
    intro x hx
    rw [List.eq_of_mem_replicate hx]
    decide
  rw [this, Bool.or_false]
theorem Alike.clauses {r o r' o' : List Int} {k : Nat} (h : Alike r o r' o' k) : clausesOf r' o' = clausesOf r o := by
  unfold clausesOf asked
  rw [sum_more h.fst, sum_more h.snd, h.hfn, ms_more h.fst, ms_more h.snd, gl_more h.fst, gl_more h.snd, od_more h.fst, od_more h.snd, ← cnt_hold, ← cnt_hold, cnt_more h.snd]
theorem eq_zip : ∀ {r o : List Int}, r.length = o.length → (r = o ↔ ∀ z ∈ r.zip o, z.1 = z.2)
  | [], [], _ => ⟨fun _ z hz => absurd hz List.not_mem_nil, fun _ => rfl⟩
  | x :: r, y :: o, h => by
    have ih := eq_zip (r := r) (o := o) (by simpa using h)
    rw [List.zip_cons_cons]
    constructor
    · intro e z hz
      obtain ⟨e1, e2⟩ := List.cons.inj e
      rcases List.mem_cons.mp hz with rfl | hz
      · exact e1
      · exact ih.mp e2 z hz
    · intro e
      have e1 : x = y := e (x, y) (by simp)
      rw [e1, ih.mpr fun z hz => e z (List.mem_cons_of_mem _ hz)]
theorem Alike.eq {r o r' o' : List Int} {k : Nat} (h : Alike r o r' o' k) : r' = o' ↔ r = o := by
  rw [eq_zip h.l', eq_zip h.l]
  constructor
  · exact fun e z hz => e z (h.pm.mem_iff.mpr (List.mem_append_left _ hz))
  · intro e z hz
    rcases List.mem_append.mp (h.pm.mem_iff.mp hz) with y | y
    · exact e z y
    · rw [List.eq_of_mem_replicate y]
theorem zip_range {r o : List Int} (l : r.length = o.length) : (List.range r.length).map (fun j => (r.getD j 0, o.getD j 0)) = r.zip o := by
  refine List.ext_getElem (by rw [List.length_map, List.length_range, List.length_zip]; omega) fun i h1 h2 => ?_
  rw [List.length_map, List.length_range] at h1
  rw [List.getElem_map, List.getElem_range, List.getElem_zip, getD_eq h1, getD_eq (by omega)]
theorem hold_zip {r o : List Int} (l : r.length = o.length) : (hold r r.length).map (fun i => (r.getD i.toNat 0, o.getD i.toNat 0)) = (r.zip o).filter fun z => decide (0 < z.1) := by
  unfold hold
  rw [List.map_map, ← zip_range l, List.filter_map]
  rfl
theorem two_perm {α : Type} {a b c d : α} (h : [a, b].Perm [c, d]) : (a = c ∧ b = d) ∨ (a = d ∧ b = c) := by
  have hc : c ∈ [a, b] := h.mem_iff.mpr (by simp)
  rcases List.mem_cons.mp hc with rfl | hc
  · have := h.cons_inv
    exact .inl ⟨rfl, List.singleton_perm_singleton.mp this⟩
  · have hcb := List.mem_singleton.mp hc
    subst hcb
    have h' := (List.Perm.swap a c []).trans h
    exact .inr ⟨List.singleton_perm_singleton.mp h'.cons_inv, rfl⟩
theorem sum_zero : ∀ {l : List Int}, (∀ n ∈ l, n = 0) → l.sum = 0
  | [], _ => rfl
  | x :: l, h => by
    rw [List.sum_cons, h x (by simp), sum_zero fun n hn => h n (List.mem_cons_of_mem _ hn)]; rfl
theorem perm_sumV {a b : List Int} (h : a.Perm b) : a.sum = b.sum := by
  have := sum_more (k := 0) (a := b) (b := a) (by rw [List.replicate_zero, List.append_nil]; exact h)
  exact this
theorem PH_iff {Z : List (Int × Int)} {a b : Int × Int} (hF : (Z.filter fun z => decide (0 < z.1)) = [a, b]) (n1 : ∀ z ∈ Z, 0 ≤ z.1) : PH Z ↔ Pr a.1.toNat b.1.toNat a.2.toNat b.2.toNat := by
  have ha : 0 < a.1 := by
    have : a ∈ Z.filter fun z => decide (0 < z.1) := by rw [hF]; simp
    exact of_decide_eq_true (List.mem_filter.mp this).2
  have hb : 0 < b.1 := by
    have : b ∈ Z.filter fun z => decide (0 < z.1) := by rw [hF]; simp
    exact of_decide_eq_true (List.mem_filter.mp this).2
  constructor
  · rintro ⟨c, d, rest, pm, hc, hd, h⟩
    have p2 := pm.filter fun z => decide (0 < z.1)
    rw [hF, List.filter_cons_of_pos (by simpa using hc), List.filter_cons_of_pos (by simpa using hd)] at p2
    have hl := p2.length_eq
    have hr : rest.filter (fun z => decide (0 < z.1)) = [] := List.length_eq_zero_iff.mp (by
      rw [List.length_cons, List.length_cons, List.length_cons, List.length_cons, List.length_nil] at hl
      omega)
    rw [hr] at p2
    rcases two_perm p2 with ⟨rfl, rfl⟩ | ⟨rfl, rfl⟩
    · exact h
    · exact (Pr.swap (by omega)).mp h
  · intro h
    refine ⟨a, b, Z.filter fun z => !decide (0 < z.1), ?_, ha, hb, h⟩
    have := List.filter_append_perm (fun z : Int × Int => decide (0 < z.1)) Z
    rw [hF] at this
    exact this.symm
theorem pairB_iff {r o : List Int} (l : r.length = o.length) (nr : ∀ n ∈ r, 0 ≤ n) (no : ∀ n ∈ o, 0 ≤ n) (h2 : (hold r r.length).length = 2) (hs : o.sum = r.sum) (hh : hfn r o = false) : pairB r o = true ↔ PH (r.zip o) := by
  obtain ⟨i, j, hij⟩ : ∃ i j, hold r r.length = [i, j] := by
    match hold r r.length, h2 with
    | [i, j], _ => exact ⟨i, j, rfl⟩
  have hz := hold_zip (r := r) (o := o) l
  rw [hij] at hz
  have hF : ((r.zip o).filter fun z => decide (0 < z.1)) = [(r.getD i.toNat 0, o.getD i.toNat 0), (r.getD j.toNat 0, o.getD j.toNat 0)] := hz.symm
  have n1 : ∀ z ∈ r.zip o, 0 ≤ z.1 := fun z h => nr _ (List.of_mem_zip h).1
  have n2 : ∀ z ∈ r.zip o, 0 ≤ z.2 := fun z h => no _ (List.of_mem_zip h).2
  rw [PH_iff hF n1]
  unfold pairB
  rw [hij]
  have pm := List.filter_append_perm (fun z : Int × Int => decide (0 < z.1)) (r.zip o)
  rw [hF] at pm
  have z0 : ∀ z ∈ (r.zip o).filter (fun z => !decide (0 < z.1)), z.1 = 0 ∧ z.2 = 0 := fun z h => by
    obtain ⟨h1, h3⟩ := List.mem_filter.mp h
    have a1 := n1 z h1
    have a2 := n2 z h1
    have e1 : z.1 = 0 := by
      simp only [Bool.not_eq_true', decide_eq_false_iff_not] at h3
      omega
    refine ⟨e1, ?_⟩
    unfold hfn at hh
    have := (List.any_eq_false.mp hh) z h1
    simp only [Bool.and_eq_true, decide_eq_true_eq] at this
    have : ¬ z.2 > 0 := fun y => this ⟨e1, y⟩
    omega
  generalize (r.zip o).filter (fun z => !decide (0 < z.1)) = rest at pm z0
  have s1 := perm_sumV (pm.map Prod.fst)
  have s2 := perm_sumV (pm.map Prod.snd)
  rw [zipF l, List.map_append, List.sum_append, sum_zero (l := rest.map Prod.fst) (fun n hn => by
    obtain ⟨z, hz, rfl⟩ := List.mem_map.mp hn
    exact (z0 z hz).1)] at s1
  rw [zipS l, List.map_append, List.sum_append, sum_zero (l := rest.map Prod.snd) (fun n hn => by
    obtain ⟨z, hz, rfl⟩ := List.mem_map.mp hn
    exact (z0 z hz).2)] at s2
  have t1 : r.getD i.toNat 0 + (r.getD j.toNat 0 + 0) + 0 = r.sum := s1
  have t2 : o.getD i.toNat 0 + (o.getD j.toNat 0 + 0) + 0 = o.sum := s2
  obtain ⟨p, q, rfl, rfl, hp, hq, hne, p0, q0⟩ := hold_two hij
  simp only [Int.toNat_natCast] at t1 t2 ⊢
  have u0 : 0 ≤ o.getD p 0 := by
    rw [getD_eq (by omega)]; exact no _ (List.getElem_mem _)
  have v0 : 0 ≤ o.getD q 0 := by
    rw [getD_eq (by omega)]; exact no _ (List.getElem_mem _)
  exact cb_iff (by omega) (by omega) (by omega)
end MG

/-! MG: what comes of what comes -/
namespace MG
open PySem PySem.Spec PyProof.Rows L2
/-- no clause of any row is broken -/
structure Cl (r o : List Int) : Prop where
  sum : o.sum = r.sum
  hf : hfn r o = false
  ms : MG.ms o = MG.ms r
  tw : v2 (gl r) ≤ v2 (gl o)
  od : v2 (gl o) = v2 (gl r) → MG.od o ≤ MG.od r
  dbl : v2 (gl o) = v2 (gl r) → MG.od o ≠ (hold o o.length).length
theorem cl_iff {r o : List Int} : clausesOf r o = [] ↔ Cl r o := by
  unfold clausesOf
  rw [List.map_eq_nil_iff, List.filter_eq_nil_iff]
  unfold asked
  constructor
  · intro h
    have h1 := h ("sum", decide (o.sum ≠ r.sum)) (by simp)
    have h2 := h ("nothing", hfn r o) (by simp)
    have h3 := h ("measure", decide (MG.ms o ≠ MG.ms r)) (by simp)
    have h4 := h ("twos", decide (v2 (gl o) < v2 (gl r))) (by simp)
    have h5 := h ("odd ones", decide (v2 (gl o) = v2 (gl r)) && decide (MG.od r < MG.od o)) (by simp)
    have h6 := h ("doubled", decide (v2 (gl o) = v2 (gl r)) && decide (MG.od o = (hold o o.length).length)) (by simp)
    simp only [Bool.and_eq_true, decide_eq_true_eq, Bool.not_eq_true] at h1 h2 h3 h4 h5 h6
    refine ⟨Classical.byContradiction h1, h2, Classical.byContradiction h3, by omega, fun e => ?_, fun e z => h6 ⟨e, z⟩⟩
    have : ¬ MG.od r < MG.od o := fun z => h5 ⟨e, z⟩
    omega
  · intro c x hx
    simp only [List.mem_cons, List.not_mem_nil, or_false] at hx
    rcases hx with rfl | rfl | rfl | rfl | rfl | rfl
    · simp [c.sum]
    · simp [c.hf]
    · simp [c.ms]
    · have := c.tw; simp; omega
    · simp only [Bool.and_eq_true, decide_eq_true_eq]
      rintro ⟨e, z⟩
      have := c.od e
      omega
    · simp only [Bool.and_eq_true, decide_eq_true_eq]
      rintro ⟨e, z⟩
      exact c.dbl e z
theorem hfn_pos {r o : List Int} (l : r.length = o.length) (no : ∀ n ∈ o, 0 ≤ n) (h : hfn r o = false) (p : Nat) (hp : r.getD p 0 = 0) : o.getD p 0 = 0 := by
  by_cases hl : p < r.length
  · unfold hfn at h
    have hl' : p < o.length := by omega
    have hm : (r.getD p 0, o.getD p 0) ∈ r.zip o := by
      rw [← zip_range l]
      exact List.mem_map.mpr ⟨p, List.mem_range.mpr hl, rfl⟩
    have := (List.any_eq_false.mp h) _ hm
    simp only [Bool.and_eq_true, decide_eq_true_eq] at this
    have h1 : ¬ o.getD p 0 > 0 := fun y => this ⟨hp, y⟩
    have h2 : 0 ≤ o.getD p 0 := by rw [getD_eq hl']; exact no _ (List.getElem_mem _)
    omega
  · rw [List.getD_eq_getElem?_getD, List.getElem?_eq_none (by omega)]; rfl
theorem Cl.trans {r m o : List Int} (l1 : r.length = m.length) (l2 : m.length = o.length) (nm : ∀ n ∈ m, 0 ≤ n) (no : ∀ n ∈ o, 0 ≤ n) (a : Cl r m) (b : Cl m o) : Cl r o := by
  refine ⟨b.sum.trans a.sum, hfn_of fun p h => hfn_pos l2 no b.hf p (hfn_pos l1 nm a.hf p h), b.ms.trans a.ms, Nat.le_trans a.tw b.tw, fun e => ?_, fun e => ?_⟩
  · have h1 := a.tw
    have h2 := b.tw
    exact Nat.le_trans (b.od (by omega)) (a.od (by omega))
  · have h1 := a.tw
    have h2 := b.tw
    exact b.dbl (by omega)
theorem pairB_pos {r o : List Int} {p q : Nat} (l : r.length = o.length) (nr : ∀ n ∈ r, 0 ≤ n) (no : ∀ n ∈ o, 0 ≤ n) (hh : hold r r.length = [(p : Int), (q : Int)]) (c : Cl r o) : pairB r o = true ↔ Pr (r.getD p 0).toNat (r.getD q 0).toNat (o.getD p 0).toNat (o.getD q 0).toNat := by
  rw [pairB_iff l nr no (by rw [hh]; rfl) c.sum c.hf]
  have hz := hold_zip (r := r) (o := o) l
  rw [hh] at hz
  rw [PH_iff hz.symm fun z h => nr _ (List.of_mem_zip h).1]
  simp only [Int.toNat_natCast]
theorem brkF_nil {r o : List Int} : brkF r o = [] ↔ r = o ∨ (r.length = o.length ∧ clausesOf r o = [] ∧ (3 ≤ (hold r r.length).length ∨ pairB r o = true)) := by
  unfold brkF
  by_cases h1 : r = o
  · rw [if_pos h1]; exact ⟨fun _ => .inl h1, fun _ => rfl⟩
  · rw [if_neg h1]
    by_cases h2 : r.length = o.length
    · rw [if_neg (fun z => z h2)]
      by_cases h3 : clausesOf r o = []
      · by_cases h4 : 3 ≤ (hold r r.length).length
        · rw [if_pos (.inr h4)]
          exact ⟨fun _ => .inr ⟨h2, h3, .inl h4⟩, fun _ => h3⟩
        · rw [if_neg (fun z => z.elim (fun y => y h3) h4)]
          by_cases h5 : pairB r o = true
          · rw [if_pos h5]; exact ⟨fun _ => .inr ⟨h2, h3, .inr h5⟩, fun _ => rfl⟩
          · rw [if_neg h5]
            exact ⟨(fun z => nomatch z), fun z => (z.elim h1 fun y => (y.2.2.elim h4 h5)).elim⟩
      · rw [if_pos (.inl h3)]
        exact ⟨fun z => absurd z h3, fun z => (z.elim h1 fun y => h3 y.2.1).elim⟩
    · rw [if_pos h2]
      exact ⟨(fun z => nomatch z), fun z => (z.elim h1 fun y => h2 y.1).elim⟩
theorem hold_eq {r m : List Int} (l : r.length = m.length) (h : ∀ p, p < r.length → (0 < r.getD p 0 ↔ 0 < m.getD p 0)) : hold m m.length = hold r r.length := by
  unfold hold
  rw [← l]
  congr 1
  refine List.filter_congr fun j hj => ?_
  exact dec_iff (h j (List.mem_range.mp hj)).symm
theorem pair_sum {r o : List Int} {p q : Nat} (l : r.length = o.length) (nr : ∀ n ∈ r, 0 ≤ n) (no : ∀ n ∈ o, 0 ≤ n) (hh : hold r r.length = [(p : Int), (q : Int)]) (z : ∀ j, r.getD j 0 = 0 → o.getD j 0 = 0) : o.sum = o.getD p 0 + o.getD q 0 := by
  have hz := hold_zip (r := r) (o := o) l
  rw [hh] at hz
  have pm := List.filter_append_perm (fun z : Int × Int => decide (0 < z.1)) (r.zip o)
  rw [← hz] at pm
  have s2 := perm_sumV (pm.map Prod.snd)
  rw [zipS l, List.map_append, List.sum_append, sum_zero (l := ((r.zip o).filter fun z => !decide (0 < z.1)).map Prod.snd) (fun n hn => by
    obtain ⟨y, hy, rfl⟩ := List.mem_map.mp hn
    obtain ⟨h1, h2⟩ := List.mem_filter.mp hy
    rw [← zip_range l] at h1
    obtain ⟨j, hj, rfl⟩ := List.mem_map.mp h1
    simp only [Bool.not_eq_true', decide_eq_false_iff_not] at h2
    have hj' := List.mem_range.mp hj
    have := nr _ (List.getElem_mem hj')
    rw [← getD_eq hj'] at this
    exact z j (by omega))] at s2
  have t2 : o.getD ((p : Int)).toNat 0 + (o.getD ((q : Int)).toNat 0 + 0) + 0 = o.sum := s2
  rw [Int.toNat_natCast, Int.toNat_natCast] at t2
  omega
/-- what comes of what comes -/
theorem brk_trans {r m o : List Int} (nr : ∀ n ∈ r, 0 ≤ n) (nm : ∀ n ∈ m, 0 ≤ n) (no : ∀ n ∈ o, 0 ≤ n) (h1 : brkF r m = []) (h2 : brkF m o = []) : brkF r o = [] := by
  rcases brkF_nil.mp h1 with rfl | ⟨l1, c1, a1⟩
  · exact h2
  rcases brkF_nil.mp h2 with rfl | ⟨l2, c2, a2⟩
  · exact h1
  by_cases hmo : m = o
  · rw [← hmo]; exact h1
  have k1 := cl_iff.mp c1
  have k2 := cl_iff.mp c2
  have k := k1.trans l1 l2 nm no k2
  refine brkF_nil.mpr (.inr ⟨l1.trans l2, cl_iff.mpr k, ?_⟩)
  by_cases h3 : 3 ≤ (hold r r.length).length
  · exact .inl h3
  refine .inr ?_
  have b1 := a1.resolve_left h3
  by_cases h22 : (hold r r.length).length = 2
  · obtain ⟨i, j, hij⟩ : ∃ i j, hold r r.length = [i, j] := by
      match hold r r.length, h22 with
      | [i, j], _ => exact ⟨i, j, rfl⟩
    obtain ⟨p, q, rfl, rfl, hp, hq, hne, p0, q0⟩ := hold_two hij
    have z1 : ∀ j, r.getD j 0 = 0 → m.getD j 0 = 0 := hfn_pos l1 nm k1.hf
    have z2 : ∀ j, m.getD j 0 = 0 → o.getD j 0 = 0 := hfn_pos l2 no k2.hf
    have sm := pair_sum l1 nr nm hij z1
    have so := pair_sum (l1.trans l2) nr no hij fun j h => z2 j (z1 j h)
    have rest : ∀ j, j ≠ p → j ≠ q → r.getD j 0 = 0 := fun t tp tq => by
      apply Classical.byContradiction
      intro hz
      by_cases ht : t < r.length
      · have t0 : 0 ≤ r.getD t 0 := by rw [getD_eq ht]; exact nr _ (List.getElem_mem _)
        have := hold_mem ht (by omega)
        rw [hij] at this
        simp only [List.mem_cons, List.not_mem_nil, or_false] at this
        omega
      · exact hz (by rw [List.getD_eq_getElem?_getD, List.getElem?_eq_none (by omega)]; rfl)
    have nnm : ∀ j, 0 ≤ m.getD j 0 := fun t => by
      by_cases ht : t < m.length
      · rw [getD_eq ht]; exact nm _ (List.getElem_mem _)
      · rw [List.getD_eq_getElem?_getD, List.getElem?_eq_none (by omega)]; exact Int.le_refl _
    have nno : ∀ j, 0 ≤ o.getD j 0 := fun t => by
      by_cases ht : t < o.length
      · rw [getD_eq ht]; exact no _ (List.getElem_mem _)
      · rw [List.getD_eq_getElem?_getD, List.getElem?_eq_none (by omega)]; exact Int.le_refl _
    have hs := k2.sum
    have mp := nnm p
    have mq := nnm q
    have ext : m.getD p 0 = o.getD p 0 → m.getD q 0 = o.getD q 0 → False := fun e1 e2 => hmo (List.ext_getElem l2 fun t h1 h2 => by
      rw [← getD_eq h1, ← getD_eq h2]
      by_cases tp : t = p
      · rw [tp]; exact e1
      · by_cases tq : t = q
        · rw [tq]; exact e2
        · rw [z1 t (rest t tp tq), z2 t (z1 t (rest t tp tq))])
    by_cases m1 : m.getD p 0 = 0
    · exact (ext (by rw [m1, z2 p m1]) (by have := z2 p m1; omega)).elim
    by_cases m2 : m.getD q 0 = 0
    · exact (ext (by have := z2 q m2; omega) (by rw [m2, z2 q m2])).elim
    have hm : hold m m.length = [(p : Int), (q : Int)] := by
      rw [hold_eq l1 fun t ht => ?_, hij]
      by_cases tp : t = p
      · rw [tp]; omega
      · by_cases tq : t = q
        · rw [tq]; omega
        · have e1 := rest t tp tq
          have e2 := z1 t e1
          omega
    have b2 : pairB m o = true := a2.resolve_left (by rw [hm]; exact fun (z : 3 ≤ 2) => absurd z (by decide))
    have P1 := (pairB_pos l1 nr nm hij k1).mp b1
    have P2 := (pairB_pos l2 nm no hm k2).mp b2
    exact (pairB_pos (l1.trans l2) nr no hij k).mpr (P1.trans P2)
  · unfold pairB
    match hh : hold r r.length with
    | [] => rfl
    | [_] => rfl
    | [_, _] => rw [hh] at h22; exact absurd rfl h22
    | _ :: _ :: _ :: _ => rfl
end MG

/-! MG: broken of alike rows, of rows many times, of deeds -/
namespace MG
open PySem PySem.Spec PyProof.Rows L2
theorem pairB_few {r o : List Int} (h : (hold r r.length).length ≠ 2) : pairB r o = true := by
  unfold pairB
  match hh : hold r r.length with
  | [] => rfl
  | [_] => rfl
  | [_, _] => rw [hh] at h; exact absurd rfl h
  | _ :: _ :: _ :: _ => rfl
theorem bool_iff {a b : Bool} (h : a = true ↔ b = true) : a = b := by
  cases a <;> cases b
  · rfl
  · exact absurd (h.mpr rfl) (by decide)
  · exact absurd (h.mp rfl) (by decide)
  · rfl
theorem PH_more {Z Z' : List (Int × Int)} {k : Nat} (pm : Z'.Perm (Z ++ List.replicate k (0, 0))) : PH Z' ↔ PH Z := by
  constructor
  · rintro ⟨a, b, rest, p, ha, hb, h⟩
    have p1 := (pm.symm.trans p).filter fun z => decide (0 < z.1)
    have e0 : (List.replicate k ((0 : Int), (0 : Int))).filter (fun z => decide (0 < z.1)) = [] := List.filter_eq_nil_iff.mpr fun x hx => by
      rw [List.eq_of_mem_replicate hx]; decide
    rw [List.filter_append, e0, List.append_nil, List.filter_cons_of_pos (by simpa using ha), List.filter_cons_of_pos (by simpa using hb)] at p1
    refine ⟨a, b, _, (List.filter_append_perm (fun z : Int × Int => decide (0 < z.1)) Z).symm.trans (p1.append_right _), ha, hb, h⟩
  · rintro ⟨a, b, rest, p, ha, hb, h⟩
    exact ⟨a, b, _, pm.trans (p.append_right _), ha, hb, h⟩
theorem Alike.hold {r o r' o' : List Int} {k : Nat} (h : Alike r o r' o' k) : (hold r' r'.length).length = (hold r r.length).length := by
  rw [← cnt_hold, ← cnt_hold, cnt_more h.fst]
theorem Alike.nn {r o r' o' : List Int} {k : Nat} (h : Alike r o r' o' k) (nr : ∀ n ∈ r, 0 ≤ n) (no : ∀ n ∈ o, 0 ≤ n) : (∀ n ∈ r', 0 ≤ n) ∧ ∀ n ∈ o', 0 ≤ n := by
  constructor
  · intro n hn
    rcases List.mem_append.mp (h.fst.mem_iff.mp hn) with z | z
    · exact nr n z
    · rw [List.eq_of_mem_replicate z]; exact Int.le_refl _
  · intro n hn
    rcases List.mem_append.mp (h.snd.mem_iff.mp hn) with z | z
    · exact no n z
    · rw [List.eq_of_mem_replicate z]; exact Int.le_refl _
theorem Alike.pairB {r o r' o' : List Int} {k : Nat} (h : Alike r o r' o' k) (nr : ∀ n ∈ r, 0 ≤ n) (no : ∀ n ∈ o, 0 ≤ n) (c : Cl r o) : pairB r' o' = pairB r o := by
  have c' : Cl r' o' := cl_iff.mp (h.clauses.trans (cl_iff.mpr c))
  obtain ⟨nr', no'⟩ := h.nn nr no
  by_cases h2 : (MG.hold r r.length).length = 2
  · refine bool_iff ?_
    rw [pairB_iff h.l nr no h2 c.sum c.hf, pairB_iff h.l' nr' no' (by rw [h.hold]; exact h2) c'.sum c'.hf]
    exact PH_more h.pm
  · rw [pairB_few h2, pairB_few (by rw [h.hold]; exact h2)]
theorem Alike.brk {r o r' o' : List Int} {k : Nat} (h : Alike r o r' o' k) (nr : ∀ n ∈ r, 0 ≤ n) (no : ∀ n ∈ o, 0 ≤ n) : brkF r' o' = brkF r o := by
  unfold brkF
  by_cases e : r = o
  · rw [if_pos e, if_pos (h.eq.mpr e)]
  · rw [if_neg e, if_neg (fun z => e (h.eq.mp z)), if_neg (show ¬ (r.length ≠ o.length) from fun z => z h.l), if_neg (show ¬ (r'.length ≠ o'.length) from fun z => z h.l'), h.clauses, h.hold]
    by_cases q : clausesOf r o ≠ [] ∨ 3 ≤ (MG.hold r r.length).length
    · rw [if_pos q, if_pos q]
    · rw [if_neg q, if_neg q, h.pairB nr no (cl_iff.mp (Classical.byContradiction fun z => q (.inl z)))]
theorem Alike.pq {r o r' o' : List Int} {k : Nat} (h : Alike r o r' o' k) (p : PairQ r o) : PairQ r' o' := fun a b c d => by
  rw [h.hold, sum_more h.fst]
  exact p (fun z => a (h.eq.mpr z)) h.l (by rw [← h.clauses]; exact c) (by rw [← h.hold]; exact d)
theorem sc_at (c : Int) (r : List Int) (p : Nat) : (sc c r).getD p 0 = c * r.getD p 0 := by
  unfold sc
  rw [List.getD_eq_getElem?_getD, List.getD_eq_getElem?_getD, List.getElem?_map]
  cases r[p]? with
  | none => show (0 : Int) = c * 0; omega
  | some v => rfl
theorem sc_nn {c : Int} (hc : 0 < c) {r : List Int} (nr : ∀ n ∈ r, 0 ≤ n) : ∀ n ∈ sc c r, 0 ≤ n := fun n hn => by
  obtain ⟨z, hz, rfl⟩ := List.mem_map.mp hn
  exact Int.mul_nonneg (by omega) (nr z hz)
theorem sc_holdE {c : Int} (hc : 0 < c) (r : List Int) : hold (sc c r) (sc c r).length = hold r r.length := by
  refine hold_eq (sc_len c r).symm fun p _ => ?_
  rw [sc_at, mul_pos_iff' hc]
theorem at_nn {o : List Int} (no : ∀ n ∈ o, 0 ≤ n) (t : Nat) : 0 ≤ o.getD t 0 := by
  by_cases ht : t < o.length
  · rw [getD_eq ht]; exact no _ (List.getElem_mem _)
  · rw [List.getD_eq_getElem?_getD, List.getElem?_eq_none (by omega)]; exact Int.le_refl _
theorem sc_pairB {c : Int} (hc : 0 < c) {r o : List Int} (l : r.length = o.length) (nr : ∀ n ∈ r, 0 ≤ n) (no : ∀ n ∈ o, 0 ≤ n) (hr : 0 < gl r) (ho : 0 < gl o) (k : Cl r o) : pairB (sc c r) (sc c o) = pairB r o := by
  have k' : Cl (sc c r) (sc c o) := cl_iff.mp (by rw [sc_clauses hc nr no hr ho]; exact cl_iff.mpr k)
  by_cases h2 : (hold r r.length).length = 2
  · refine bool_iff ?_
    obtain ⟨i, j, hij⟩ : ∃ i j, hold r r.length = [i, j] := by
      match hold r r.length, h2 with
      | [i, j], _ => exact ⟨i, j, rfl⟩
    obtain ⟨p, q, rfl, rfl, hp, hq, hne, p0, q0⟩ := hold_two hij
    rw [pairB_pos l nr no hij k, pairB_pos (by rw [sc_len, sc_len]; exact l) (sc_nn hc nr) (sc_nn hc no) (by rw [sc_holdE hc]; exact hij) k', sc_at, sc_at, sc_at, sc_at]
    rw [Int.toNat_mul (by omega) (at_nn nr p), Int.toNat_mul (by omega) (at_nn nr q), Int.toNat_mul (by omega) (at_nn no p), Int.toNat_mul (by omega) (at_nn no q)]
    exact Pr.mul (by omega)
  · rw [pairB_few h2, pairB_few (by rw [sc_holdE hc]; exact h2)]
theorem sc_brkF {c : Int} (hc : 0 < c) {r o : List Int} (nr : ∀ n ∈ r, 0 ≤ n) (no : ∀ n ∈ o, 0 ≤ n) (hr : 0 < gl r) (ho : 0 < gl o) : brkF (sc c r) (sc c o) = brkF r o := by
  unfold brkF
  rw [sc_len c o, sc_holdE hc]
  by_cases e : r = o
  · rw [if_pos e, if_pos (by rw [e])]
  · rw [if_neg e, if_neg (fun z => e (sc_inj hc z)), sc_len]
    by_cases l : r.length = o.length
    · rw [if_neg (show ¬ (r.length ≠ o.length) from fun z => z l), if_neg (show ¬ (r.length ≠ o.length) from fun z => z l), sc_clauses hc nr no hr ho]
      by_cases q : clausesOf r o ≠ [] ∨ 3 ≤ (hold r r.length).length
      · rw [if_pos q, if_pos q]
      · rw [if_neg q, if_neg q, sc_pairB hc l nr no hr ho (cl_iff.mp (Classical.byContradiction fun z => q (.inl z)))]
    · rw [if_pos l, if_pos l]
theorem brk_deed {r : List Int} {i j : Nat} (h : MayG r i j) (nr : ∀ n ∈ r, 0 ≤ n) : brkF r (deed r i j) = [] := by
  have lv := deed_lv h nr
  have c := lv.clauses
  have nd := deed_nn h nr
  refine brkF_nil.mpr (.inr ⟨lv.len.symm, c, ?_⟩)
  by_cases h3 : 3 ≤ (hold r r.length).length
  · exact .inl h3
  refine .inr ?_
  by_cases h2 : (hold r r.length).length = 2
  · obtain ⟨x, y, hij⟩ : ∃ i j, hold r r.length = [i, j] := by
      match hold r r.length, h2 with
      | [i, j], _ => exact ⟨i, j, rfl⟩
    obtain ⟨p, q, rfl, rfl, hp, hq, hne, p0, q0⟩ := hold_two hij
    have pi := h.pj
    have ge := h.ge
    have mi := hold_mem h.hi (by omega)
    have mj := hold_mem h.hj pi
    rw [hij] at mi mj
    simp only [List.mem_cons, List.not_mem_nil, or_false] at mi mj
    have hne' := h.ne
    have di : (deed r i j).getD i 0 = r.getD i 0 - r.getD j 0 := by
      unfold deed
      rw [getD_set (by rw [List.length_set]; exact h.hj), if_neg (fun z => hne' z.symm), getD_set h.hi, if_pos rfl]
    have dj : (deed r i j).getD j 0 = 2 * r.getD j 0 := by
      unfold deed
      rw [getD_set (by rw [List.length_set]; exact h.hj), if_pos rfl]
    rw [pairB_pos lv.len.symm nr nd hij (cl_iff.mp c)]
    rcases (show (p = i ∧ q = j) ∨ (p = j ∧ q = i) by omega) with ⟨rfl, rfl⟩ | ⟨rfl, rfl⟩
    · rw [di, dj]
      have := Pr.deed (p := (r.getD p 0).toNat) (q := (r.getD q 0).toNat) (by omega)
      rw [show (r.getD p 0 - r.getD q 0).toNat = (r.getD p 0).toNat - (r.getD q 0).toNat by omega, show (2 * r.getD q 0).toNat = 2 * (r.getD q 0).toNat by omega]
      exact this
    · rw [di, dj]
      have := Pr.deed' (p := (r.getD p 0).toNat) (q := (r.getD q 0).toNat) (by omega)
      rw [show (r.getD q 0 - r.getD p 0).toNat = (r.getD q 0).toNat - (r.getD p 0).toNat by omega, show (2 * r.getD p 0).toNat = 2 * (r.getD p 0).toNat by omega]
      exact this
  · exact pairB_few h2
/-! ### rows laid in an order, with a nothing -/
theorem alike_order {r o : List Int} {s : List Nat} (l : r.length = o.length) (hs : s.Perm (List.range r.length)) : Alike r o (s.map fun p => r.getD p 0) (s.map fun p => o.getD p 0) 0 := by
  refine ⟨l, by rw [List.length_map, List.length_map], ?_⟩
  rw [List.replicate_zero, List.append_nil, ← zip_range l, List.zip_map']
  exact hs.map _
theorem alike_nothing {r o : List Int} {k : Nat} (l : r.length = o.length) : Alike r o (r.take k ++ [0] ++ r.drop k) (o.take k ++ [0] ++ o.drop k) 1 := by
  refine ⟨l, by simp only [List.length_append, List.length_take, List.length_drop]; omega, ?_⟩
  rw [List.append_assoc, List.append_assoc, List.zip_append (by rw [List.length_take, List.length_take]; omega), List.singleton_append, List.singleton_append, List.zip_cons_cons]
  refine List.perm_middle.trans ?_
  rw [← List.zip_append (by rw [List.length_take, List.length_take]; omega), List.take_append_drop, List.take_append_drop]
  exact (List.perm_append_comm (l₁ := [((0 : Int), (0 : Int))]) (l₂ := r.zip o))
end MG

/-! MG: wishes -/
namespace MG
open PySem PySem.Spec PyProof.Rows L2
/-- the wishes as a row, 0 for none -/
def wA (ws : List (Option Int)) : List Int := ws.map fun w => w.getD 0
def isFr (r : List Int) (ws : List (Option Int)) (j : Nat) : Bool := (ws.getD j (some 0)).isNone && decide (0 < r.getD j 0)
/-- the places that are free -/
def free (r : List Int) (ws : List (Option Int)) (i : Nat) : List Int := ((List.range i).filter (isFr r ws)).map fun (j : Nat) => (j : Int)
def Meets (ws : List (Option Int)) (o : List Int) : Prop := o.length = ws.length ∧ ∀ (p : Nat) (v : Int), ws[p]? = some (some v) → o[p]? = some v
def fillF (r : List Int) (ws : List (Option Int)) : Option (List Int) :=
  if r.sum - (wA ws).sum < 0 ∨ (0 < r.sum - (wA ws).sum ∧ free r ws ws.length = []) then none
  else if 1 < (free r ws ws.length).length ∧ 2 * (gl r : Int) < r.sum - (wA ws).sum then
    some (((wA ws).set ((free r ws ws.length).getLastD 0).toNat (2 * (gl r : Int))).set ((free r ws ws.length).headD 0).toNat (r.sum - (wA ws).sum - 2 * (gl r : Int)))
  else if free r ws ws.length = [] then some (wA ws) else some ((wA ws).set ((free r ws ws.length).headD 0).toNat (r.sum - (wA ws).sum))
def wishF (r : List Int) (ws : List (Option Int)) : Option (List Int) :=
  match fillF r ws with
  | some o => if brkT r o = [] then some o else none
  | none => none
theorem free_succ (r : List Int) (ws : List (Option Int)) (i : Nat) : free r ws (i + 1) = free r ws i ++ (if isFr r ws i = true then [(i : Int)] else []) := by
  unfold free
  rw [List.range_succ, List.filter_append, List.map_append]
  congr 1
  cases h : isFr r ws i with
  | true => rw [List.filter_cons_of_pos h, List.filter_nil]; rfl
  | false => rw [List.filter_cons_of_neg (by rw [h]; exact Bool.false_ne_true), List.filter_nil]; rfl
theorem free_len (r : List Int) (ws : List (Option Int)) (i : Nat) : (free r ws i).length ≤ i := by
  unfold free
  rw [List.length_map]
  exact Nat.le_trans (List.length_filter_le _ _) (by rw [List.length_range]; exact Nat.le_refl _)
theorem wA_len (ws : List (Option Int)) : (wA ws).length = ws.length := List.length_map _
theorem free_mem {r : List Int} {ws : List (Option Int)} {x : Int} (h : x ∈ free r ws ws.length) : ∃ p : Nat, x = p ∧ p < ws.length ∧ ws[p]? = some none ∧ 0 < r.getD p 0 := by
  obtain ⟨p, hp, rfl⟩ := List.mem_map.mp h
  obtain ⟨h1, h2⟩ := List.mem_filter.mp hp
  have hl := List.mem_range.mp h1
  unfold isFr at h2
  rw [Bool.and_eq_true, decide_eq_true_eq] at h2
  refine ⟨p, rfl, hl, ?_, h2.2⟩
  rw [List.getD_eq_getElem?_getD, List.getElem?_eq_getElem hl] at h2
  rw [List.getElem?_eq_getElem hl]
  have := h2.1
  rw [Option.getD_some, Option.isNone_iff_eq_none] at this
  rw [this]
theorem mem_free {r : List Int} {ws : List (Option Int)} {p : Nat} (h : ws[p]? = some none) (h0 : 0 < r.getD p 0) : (p : Int) ∈ free r ws ws.length := by
  have hl : p < ws.length := (List.getElem?_eq_some_iff.mp h).1
  refine List.mem_map.mpr ⟨p, List.mem_filter.mpr ⟨List.mem_range.mpr hl, ?_⟩, rfl⟩
  unfold isFr
  rw [List.getD_eq_getElem?_getD, h, decide_eq_true h0]
  rfl
theorem wA_none {ws : List (Option Int)} {p : Nat} (h : ws[p]? = some none) : (wA ws)[p]? = some 0 := by
  unfold wA
  rw [List.getElem?_map, h]; rfl
theorem wA_some {ws : List (Option Int)} {p : Nat} {v : Int} (h : ws[p]? = some (some v)) : (wA ws)[p]? = some v := by
  unfold wA
  rw [List.getElem?_map, h]; rfl
theorem meets_wA (ws : List (Option Int)) : Meets ws (wA ws) := ⟨wA_len ws, fun p v h => wA_some h⟩
theorem meets_set {ws : List (Option Int)} {o : List Int} {p : Nat} {x : Int} (m : Meets ws o) (h : ws[p]? = some none) : Meets ws (o.set p x) := by
  refine ⟨by rw [List.length_set]; exact m.1, fun q v hq => ?_⟩
  have hne : p ≠ q := fun z => by rw [← z, h] at hq; cases hq
  rw [List.getElem?_set_ne hne]
  exact m.2 q v hq
/-- what is beside the wishes -/
def restW : List (Option Int) → List Int → List Int
  | none :: ws, n :: o => n :: restW ws o
  | some _ :: ws, _ :: o => 0 :: restW ws o
  | _, _ => []
theorem meets_cons {w : Option Int} {ws : List (Option Int)} {n : Int} {o : List Int} (m : Meets (w :: ws) (n :: o)) : Meets ws o ∧ ∀ v, w = some v → n = v := by
  refine ⟨⟨Nat.succ.inj m.1, fun p v h => m.2 (p + 1) v h⟩, fun v h => ?_⟩
  have := m.2 0 v (by rw [h]; rfl)
  exact Option.some.inj this
theorem meets_sum {f : Int → Int} (f0 : f 0 = 0) : ∀ {ws : List (Option Int)} {o : List Int}, Meets ws o → (o.map f).sum = ((wA ws).map f).sum + ((restW ws o).map f).sum
  | [], [], _ => rfl
  | [], _ :: _, m => absurd m.1 (by simp)
  | _ :: _, [], m => absurd m.1 (by simp)
  | none :: ws, n :: o, m => by
    have ih := meets_sum f0 (meets_cons m).1
    show f n + (o.map f).sum = (f 0 + ((wA ws).map f).sum) + (f n + ((restW ws o).map f).sum)
    omega
  | some v :: ws, n :: o, m => by
    have ih := meets_sum f0 (meets_cons m).1
    have e := (meets_cons m).2 v rfl
    subst e
    show f n + (o.map f).sum = (f n + ((wA ws).map f).sum) + (f 0 + ((restW ws o).map f).sum)
    omega
theorem rest_mem : ∀ {ws : List (Option Int)} {o : List Int} {n : Int}, n ∈ restW ws o → n = 0 ∨ n ∈ o
  | none :: ws, m :: o, n, h => by
    rcases List.mem_cons.mp h with z | z
    · exact .inr (z ▸ List.mem_cons_self)
    · exact (rest_mem z).imp id (List.mem_cons_of_mem _)
  | some _ :: ws, m :: o, n, h => by
    rcases List.mem_cons.mp h with z | z
    · exact .inl z
    · exact (rest_mem z).imp id (List.mem_cons_of_mem _)
  | [], _, _, h => by cases h
  | none :: _, [], _, h => by cases h
  | some _ :: _, [], _, h => by cases h
theorem rest_at : ∀ {ws : List (Option Int)} {o : List Int} {p : Nat}, o.length = ws.length → (restW ws o).getD p 0 = if ws[p]? = some none then o.getD p 0 else 0
  | [], [], p, _ => by simp [restW]
  | [], _ :: _, _, h => by cases h
  | _ :: _, [], _, h => by cases h
  | none :: ws, n :: o, 0, _ => by simp [restW]
  | some v :: ws, n :: o, 0, _ => by simp [restW]
  | none :: ws, n :: o, p + 1, h => by
    have := rest_at (ws := ws) (o := o) (p := p) (Nat.succ.inj h)
    simpa [restW] using this
  | some v :: ws, n :: o, p + 1, h => by
    have := rest_at (ws := ws) (o := o) (p := p) (Nat.succ.inj h)
    simpa [restW] using this
theorem rest_len : ∀ {ws : List (Option Int)} {o : List Int}, o.length = ws.length → (restW ws o).length = ws.length
  | [], [], _ => rfl
  | [], _ :: _, h => by cases h
  | _ :: _, [], h => by cases h
  | none :: ws, n :: o, h => congrArg Nat.succ (rest_len (ws := ws) (o := o) (Nat.succ.inj h))
  | some v :: ws, n :: o, h => congrArg Nat.succ (rest_len (ws := ws) (o := o) (Nat.succ.inj h))
theorem map_id_sum (l : List Int) : (l.map fun n => n).sum = l.sum := by rw [List.map_id']
theorem sum_setF (f : Int → Int) {l : List Int} {p : Nat} {x y : Int} (h : l[p]? = some y) : ((l.set p x).map f).sum = (l.map f).sum - f y + f x := by
  have hp : p < l.length := (List.getElem?_eq_some_iff.mp h).1
  rw [List.map_set, sum_setG _ p (by rw [List.length_map]; exact hp), List.getElem_map, (List.getElem?_eq_some_iff.mp h).2]
theorem sum_dvd {d : Int} : ∀ {l : List Int}, (∀ n ∈ l, d ∣ n) → d ∣ l.sum
  | [], _ => ⟨0, by simp⟩
  | x :: l, h => by
    rw [List.sum_cons]
    exact Int.dvd_add (h x List.mem_cons_self) (sum_dvd fun n hn => h n (List.mem_cons_of_mem _ hn))
theorem sum_nn : ∀ {l : List Int}, (∀ n ∈ l, 0 ≤ n) → 0 ≤ l.sum
  | [], _ => Int.le_refl _
  | x :: l, h => by
    rw [List.sum_cons]
    have := h x List.mem_cons_self
    have := sum_nn (l := l) fun n hn => h n (List.mem_cons_of_mem _ hn)
    omega
theorem oddF_zero (t : Nat) : oddF t 0 = 0 := by unfold oddF; rw [if_pos (by simp)]
theorem oddF_le (t : Nat) {n : Int} (h : 0 ≤ n) : oddF t n ≤ posF n := by
  unfold oddF posF
  by_cases z : n = 0
  · subst z; simp
  · rw [if_pos (show 0 < n by omega)]
    split <;> decide
theorem oddF_nn (t : Nat) (n : Int) : 0 ≤ oddF t n := by unfold oddF; split <;> decide
theorem oddF_dvd {t : Nat} {n : Int} (h : (2 : Int) ^ (t + 1) ∣ n) : oddF t n = 0 := by
  unfold oddF; rw [if_pos (Int.emod_eq_zero_of_dvd h)]
theorem oddF_sum (t : Nat) : ∀ {l : List Int}, oddF t l.sum ≤ (l.map (oddF t)).sum
  | [] => by rw [List.sum_nil, oddF_zero]; exact Int.le_refl _
  | x :: l => by
    have ih := oddF_sum t (l := l)
    have h1 := oddF_nn t x
    have h2 := sum_nn (l := l.map (oddF t)) fun n hn => by obtain ⟨m, _, rfl⟩ := List.mem_map.mp hn; exact oddF_nn t m
    rw [List.sum_cons, List.map_cons, List.sum_cons]
    by_cases hx : (2 : Int) ^ (t + 1) ∣ x
    · have : oddF t (x + l.sum) = oddF t l.sum := by
        unfold oddF
        rw [Int.add_emod, Int.emod_eq_zero_of_dvd hx, Int.zero_add, Int.emod_emod_of_dvd _ (Int.dvd_refl _)]
      omega
    · have h3 : oddF t x = 1 := by
        unfold oddF
        rw [if_neg fun z => hx (Int.dvd_of_emod_eq_zero z)]
      have : oddF t (x + l.sum) ≤ 1 := by unfold oddF; split <;> decide
      omega
theorem od_sum {r : List Int} (nr : ∀ n ∈ r, 0 ≤ n) : ((od r : Nat) : Int) = (r.map (oddF (v2 (gl r)))).sum := few_sum _ nr
theorem hold_pos (r : List Int) : (((hold r r.length).length : Nat) : Int) = (r.map posF).sum := by rw [hold_all, pos_sum]
theorem all_dvd {o : List Int} {u : Nat} (no : ∀ n ∈ o, 0 ≤ n) (h : ∀ n ∈ o, (u : Int) ∣ n) : u ∣ gl o := gl_all fun n hn => by
  have h1 := h n hn
  have h2 := no n hn
  have : ((u : Nat) : Int) ∣ ((n.toNat : Nat) : Int) := by rw [Int.toNat_of_nonneg h2]; exact h1
  exact Int.natCast_dvd_natCast.mp this
theorem gl_dvdI {o : List Int} {n : Int} (no : 0 ≤ n) (hn : n ∈ o) : (gl o : Int) ∣ n := by
  have := Int.natCast_dvd_natCast.mpr (gl_dvd hn)
  rwa [Int.toNat_of_nonneg no] at this
theorem cl_of {r o : List Int} (nr : ∀ n ∈ r, 0 ≤ n) (no : ∀ n ∈ o, 0 ≤ n) (h0 : 0 < gl r) (hs : o.sum = r.sum) (hz : ∀ p, r.getD p 0 = 0 → o.getD p 0 = 0) (hg : gl o = gl r ∨ gl o = 2 * gl r)
    (h1 : (o.map (oddF (v2 (gl r)))).sum ≤ (r.map (oddF (v2 (gl r)))).sum) (h2 : (o.map (oddF (v2 (gl r)))).sum < (o.map posF).sum) : Cl r o := by
  have hm := ms_of h0 hg
  refine ⟨hs, hfn_of hz, hm.1, hm.2, fun e => ?_, fun e => ?_⟩
  · have a := od_sum nr
    have b := od_sum no
    rw [e] at b
    omega
  · have b := od_sum no
    rw [e] at b
    have := hold_pos o
    omega
/-- what is known of a row that comes -/
structure Knows (r o : List Int) : Prop where
  len : o.length = r.length
  sum : o.sum = r.sum
  noth : ∀ p, r.getD p 0 = 0 → o.getD p 0 = 0
  dv : ∀ n ∈ o, (gl r : Int) ∣ n
  odd : (o.map (oddF (v2 (gl r)))).sum ≤ (r.map (oddF (v2 (gl r)))).sum
theorem pow_dvdI {n : Int} {k : Nat} {g : Nat} (h : 2 ^ k ∣ g) (hn : (g : Int) ∣ n) : (2 : Int) ^ k ∣ n := by
  have : ((2 ^ k : Nat) : Int) ∣ (g : Int) := Int.natCast_dvd_natCast.mpr h
  rw [Int.natCast_pow] at this
  exact Int.dvd_trans this hn
theorem ms_dvd {r o : List Int} (hr : 0 < gl r) (ho : 0 < gl o) (h1 : ms o = ms r) (h2 : v2 (gl r) ≤ v2 (gl o)) : gl r ∣ gl o := by
  rw [ms_nat, ms_nat] at h1
  have e : gl o / 2 ^ v2 (gl o) = gl r / 2 ^ v2 (gl r) := by omega
  rw [v2_split hr, v2_split ho, e]
  exact Nat.mul_dvd_mul (Nat.pow_dvd_pow 2 h2) (Nat.dvd_refl _)
theorem knows {r o : List Int} (nr : ∀ n ∈ r, 0 ≤ n) (no : ∀ n ∈ o, 0 ≤ n) (hr : 0 < gl r) (ho : 0 < gl o) (h : brkT r o = []) : Knows r o := by
  by_cases he : r = o
  · subst he
    exact ⟨rfl, rfl, fun _ z => z, fun n hn => gl_dvdI (nr n hn) hn, Int.le_refl _⟩
  unfold brkT at h
  rw [if_neg he] at h
  by_cases hl : r.length = o.length
  · rw [if_neg (fun z => z hl)] at h
    have c := cl_iff.mp h
    have dv : ∀ n ∈ o, (gl r : Int) ∣ n := fun n hn => Int.dvd_trans (Int.natCast_dvd_natCast.mpr (ms_dvd hr ho c.ms c.tw)) (gl_dvdI (no n hn) hn)
    refine ⟨hl.symm, c.sum, fun p z => hfn_pos hl no c.hf p z, dv, ?_⟩
    by_cases e : v2 (gl o) = v2 (gl r)
    · have := c.od e
      have a := od_sum nr
      have b := od_sum no
      rw [e] at b
      omega
    · have hlt : v2 (gl r) + 1 ≤ v2 (gl o) := by have := c.tw; omega
      have z : (o.map (oddF (v2 (gl r)))).sum = 0 := sum_zero fun x hx => by
        obtain ⟨n, hn, rfl⟩ := List.mem_map.mp hx
        exact oddF_dvd (pow_dvdI ((pow_dvd_iff ho).mpr hlt) (gl_dvdI (no n hn) hn))
      rw [z]
      exact sum_nn fun x hx => by obtain ⟨n, _, rfl⟩ := List.mem_map.mp hx; exact oddF_nn _ n
  · rw [if_pos hl] at h; cases h
theorem brk_of_cl {r o : List Int} (hl : r.length = o.length) (c : Cl r o) : brkT r o = [] := by
  unfold brkT
  split
  · rfl
  · rw [if_neg (fun z => z hl)]; exact cl_iff.mpr c
theorem pos_gl {o : List Int} (no : ∀ n ∈ o, 0 ≤ n) (h : 0 < o.sum) : 0 < gl o := by
  by_cases z : ∃ n ∈ o, 0 < n
  · obtain ⟨n, hn, h0⟩ := z
    exact gl_pos hn h0
  · have := sum_zero (l := o) fun n hn => by
      have := no n hn
      have : ¬ 0 < n := fun y => z ⟨n, hn, y⟩
      omega
    omega
theorem gl_between {r o : List Int} (no : ∀ n ∈ o, 0 ≤ n) (dv : ∀ n ∈ o, (gl r : Int) ∣ n) (h2 : 2 * (gl r : Int) ∈ o) (h0 : 0 < gl r) : gl o = gl r ∨ gl o = 2 * gl r := by
  have a : gl r ∣ gl o := all_dvd no dv
  have b : gl o ∣ 2 * gl r := by
    have := gl_dvd h2
    rwa [show (2 * (gl r : Int)).toNat = 2 * gl r by omega] at this
  obtain ⟨c, hc⟩ := a
  obtain ⟨d, hd⟩ := b
  rw [hc, Nat.mul_assoc, Nat.mul_comm] at hd
  have h1 : 2 = c * d := Nat.eq_of_mul_eq_mul_left h0 hd
  have hc2 : c ≤ 2 := Nat.le_of_dvd (by decide) ⟨d, h1⟩
  rcases c with _ | _ | _ | c
  · omega
  · left; omega
  · right; omega
  · omega
theorem oddF_two {t u : Nat} (ht : t = v2 u) : oddF t (2 * (u : Int)) = 0 := by
  refine oddF_dvd ?_
  subst ht
  have h := pow_v2_dvd u
  obtain ⟨c, hc⟩ := h
  refine ⟨(c : Int), ?_⟩
  have e : ((u : Nat) : Int) = 2 ^ v2 u * (c : Int) := by
    have e : ((u : Nat) : Int) = ((2 ^ v2 u * c : Nat) : Int) := by rw [← hc]
    rw [e, Int.natCast_mul, Int.natCast_pow]; rfl
  rw [e, Int.pow_succ]
  generalize (2 : Int) ^ v2 u = z
  grind
theorem oddF_sub {t u : Nat} (ht : t = v2 u) (x : Int) : oddF t (x - 2 * (u : Int)) = oddF t x := by
  have h := oddF_two ht
  unfold oddF at h ⊢
  have e : 2 * (u : Int) % 2 ^ (t + 1) = 0 := by
    by_cases z : 2 * (u : Int) % 2 ^ (t + 1) = 0
    · exact z
    · rw [if_neg z] at h; cases h
  have : (x - 2 * (u : Int)) % 2 ^ (t + 1) = x % 2 ^ (t + 1) := by
    rw [Int.sub_emod, e, Int.sub_zero, Int.emod_emod_of_dvd _ (Int.dvd_refl _)]
  rw [this]
end MG

/-! MG: wishes filled -/
namespace MG
open PySem PySem.Spec PyProof.Rows L2
def wV : Option Int → V
  | none => .non
  | some v => .int v
theorem wV_non (w : Option Int) : decide (wV w = V.non) = w.isNone := by
  cases w with
  | none => exact decide_eq_true rfl
  | some v => exact decide_eq_false (fun z => nomatch z)
/-- the forms in which wishes are filled -/
inductive Fill (r : List Int) (ws : List (Option Int)) : List Int → Prop
  | none (h : free r ws ws.length = []) (hs : r.sum = (wA ws).sum) : Fill r ws (wA ws)
  | one (p : Nat) (h : ws[p]? = some Option.none) (h0 : 0 < r.getD p 0) (hl : 0 ≤ r.sum - (wA ws).sum) (hh : (free r ws ws.length).headD 0 = p)
      (hk : (free r ws ws.length).length ≤ 1 ∨ r.sum - (wA ws).sum ≤ 2 * (gl r : Int)) : Fill r ws ((wA ws).set p (r.sum - (wA ws).sum))
  | two (p q : Nat) (hp : ws[p]? = some Option.none) (hq : ws[q]? = some Option.none) (hp0 : 0 < r.getD p 0) (hq0 : 0 < r.getD q 0) (hne : p ≠ q) (hl : 2 * (gl r : Int) < r.sum - (wA ws).sum) :
      Fill r ws (((wA ws).set q (2 * (gl r : Int))).set p (r.sum - (wA ws).sum - 2 * (gl r : Int)))
theorem free_nodup (r : List Int) (ws : List (Option Int)) (i : Nat) : (free r ws i).Nodup := by
  unfold free
  refine List.Pairwise.map _ ?_ ((List.nodup_range).filter _)
  intro a b h z
  exact h (by omega)
theorem last_ne {l : List Int} (h : 1 < l.length) (hn : l.Nodup) : l.headD 0 ∈ l ∧ l.getLastD 0 ∈ l ∧ l.headD 0 ≠ l.getLastD 0 := by
  match l, h with
  | x :: y :: l, _ =>
    have e : (x :: y :: l).getLastD 0 = (y :: l).getLast (by simp) := by simp [List.getLastD, List.getLast?_cons_cons]
    have m : (y :: l).getLast (by simp) ∈ (y :: l) := List.getLast_mem _
    rw [e]
    refine ⟨List.mem_cons_self, List.mem_cons_of_mem _ m, ?_⟩
    rintro rfl
    exact (List.nodup_cons.mp hn).1 m
theorem fill_form {r : List Int} {ws : List (Option Int)} {o : List Int} (h : fillF r ws = some o) : Fill r ws o := by
  unfold fillF at h
  split at h
  · cases h
  rename_i h1
  have h1a : ¬ r.sum - (wA ws).sum < 0 := fun z => h1 (.inl z)
  split at h
  · rename_i h2
    cases h
    obtain ⟨a, b, c⟩ := last_ne h2.1 (free_nodup r ws ws.length)
    obtain ⟨p, ep, hp1, hp2, hp3⟩ := free_mem a
    obtain ⟨q, eq, hq1, hq2, hq3⟩ := free_mem b
    rw [ep, eq, Int.toNat_natCast, Int.toNat_natCast]
    exact .two p q hp2 hq2 hp3 hq3 (fun z => c (by rw [ep, eq, z])) h2.2
  rename_i h2
  split at h
  · rename_i h3
    cases h
    exact .none h3 (by have : ¬ 0 < r.sum - (wA ws).sum := fun z => h1 (.inr ⟨z, h3⟩); omega)
  · rename_i h3
    cases h
    have a : (free r ws ws.length).headD 0 ∈ free r ws ws.length := by
      match free r ws ws.length, h3 with
      | x :: l, _ => exact List.mem_cons_self
    obtain ⟨p, ep, hp1, hp2, hp3⟩ := free_mem a
    rw [ep, Int.toNat_natCast]
    refine .one p hp2 hp3 (by omega) ep ?_
    by_cases z : (free r ws ws.length).length ≤ 1
    · exact .inl z
    · exact .inr (by have : ¬ 2 * (gl r : Int) < r.sum - (wA ws).sum := fun y => h2 ⟨by omega, y⟩; omega)
theorem Fill.meets {r : List Int} {ws : List (Option Int)} {o : List Int} (h : Fill r ws o) : Meets ws o := by
  cases h with
  | none => exact meets_wA ws
  | one p h => exact meets_set (meets_wA ws) h
  | two p q hp hq => exact meets_set (meets_set (meets_wA ws) hq) hp
theorem Fill.sumF {r : List Int} {ws : List (Option Int)} {o : List Int} (h : Fill r ws o) {f : Int → Int} (f0 : f 0 = 0) :
    (o = wA ws ∧ r.sum = (wA ws).sum) ∨ (o.map f).sum = ((wA ws).map f).sum + f (r.sum - (wA ws).sum) ∨ (o.map f).sum = ((wA ws).map f).sum + f (2 * (gl r : Int)) + f (r.sum - (wA ws).sum - 2 * (gl r : Int)) := by
  cases h with
  | none _ hs => exact .inl ⟨rfl, hs⟩
  | one p h =>
    right; left
    rw [sum_setF f (wA_none h), f0]; omega
  | two p q hp hq _ _ hne =>
    right; right
    rw [sum_setF f (y := 0), sum_setF f (wA_none hq), f0]
    · omega
    · rw [List.getElem?_set_ne hne.symm]
      exact wA_none hp
theorem Fill.sum {r : List Int} {ws : List (Option Int)} {o : List Int} (h : Fill r ws o) : o.sum = r.sum := by
  rcases h.sumF (f := fun n => n) rfl with ⟨rfl, z⟩ | z | z
  · exact z.symm
  · rw [map_id_sum, map_id_sum] at z; omega
  · rw [map_id_sum, map_id_sum] at z; omega
theorem wA_nn {ws : List (Option Int)} (h : ∀ v, some v ∈ ws → 0 ≤ v) : ∀ n ∈ wA ws, 0 ≤ n := by
  intro n hn
  obtain ⟨w, hw, rfl⟩ := List.mem_map.mp hn
  cases w with
  | none => exact Int.le_refl _
  | some v => exact h v hw
theorem Fill.nn {r : List Int} {ws : List (Option Int)} {o : List Int} (h : Fill r ws o) (hw : ∀ v, some v ∈ ws → 0 ≤ v) : ∀ n ∈ o, 0 ≤ n := by
  have hA := wA_nn hw
  have hset : ∀ {l : List Int} {p : Nat} {x : Int}, (∀ n ∈ l, 0 ≤ n) → 0 ≤ x → ∀ n ∈ l.set p x, 0 ≤ n := fun hl hx n hn => by
    rcases List.mem_or_eq_of_mem_set hn with z | z
    · exact hl n z
    · rw [z]; exact hx
  cases h with
  | none => exact hA
  | one p _ _ hl => exact hset hA hl
  | two p q _ _ _ _ _ hl => exact hset (hset hA (by omega)) (by omega)
theorem Fill.noth {r : List Int} {ws : List (Option Int)} {o o' : List Int} (h : Fill r ws o) (m : Meets ws o') (k : ∀ p, r.getD p 0 = 0 → o'.getD p 0 = 0) : ∀ p, r.getD p 0 = 0 → o.getD p 0 = 0 := by
  have hA : ∀ p, r.getD p 0 = 0 → (wA ws).getD p 0 = 0 := fun p hp => by
    cases hw : ws[p]? with
    | none => rw [List.getD_eq_getElem?_getD, List.getElem?_eq_none (by rw [wA_len]; exact List.getElem?_eq_none_iff.mp hw)]; rfl
    | some w =>
      cases w with
      | none => rw [List.getD_eq_getElem?_getD, wA_none hw]; rfl
      | some v =>
        have e := k p hp
        rw [List.getD_eq_getElem?_getD, m.2 p v hw] at e
        rw [List.getD_eq_getElem?_getD, wA_some hw]
        exact e
  have hset : ∀ {l : List Int} {q : Nat} {x : Int}, (∀ p, r.getD p 0 = 0 → l.getD p 0 = 0) → 0 < r.getD q 0 → ∀ p, r.getD p 0 = 0 → (l.set q x).getD p 0 = 0 := fun {l q x} hl hq p hp => by
    have hne : q ≠ p := fun z => by rw [← z] at hp; omega
    rw [List.getD_eq_getElem?_getD, List.getElem?_set_ne hne, ← List.getD_eq_getElem?_getD]
    exact hl p hp
  cases h with
  | none => exact hA
  | one p _ h0 => exact hset hA h0
  | two p q _ _ hp0 hq0 => exact hset (hset hA hq0) hp0
theorem wA_dvd {ws : List (Option Int)} {o : List Int} {d : Int} (m : Meets ws o) (h : ∀ n ∈ o, d ∣ n) : ∀ n ∈ wA ws, d ∣ n := by
  intro n hn
  obtain ⟨w, hw, rfl⟩ := List.mem_map.mp hn
  cases w with
  | none => exact ⟨0, by simp⟩
  | some v =>
    obtain ⟨p, hp⟩ := List.getElem?_of_mem hw
    exact h _ (List.mem_of_getElem? (m.2 p v hp))
theorem ext0 {a b : List Int} (l : a.length = b.length) (h : ∀ p, p < a.length → a.getD p 0 = b.getD p 0) : a = b := by
  refine List.ext_getElem l fun p h1 h2 => ?_
  have := h p h1
  rwa [getD_eq h1, getD_eq h2] at this
/-- whatever comes and meets the wishes, the filled row comes -/
theorem fill_best {r : List Int} {ws : List (Option Int)} {o' : List Int} (l : ws.length = r.length) (nr : ∀ n ∈ r, 0 ≤ n) (hr : 0 < gl r) (m : Meets ws o') (no' : ∀ n ∈ o', 0 ≤ n) (hb : brkT r o' = []) (hS : 0 < r.sum) (hS' : o'.sum = r.sum) :
    ∃ o, fillF r ws = some o ∧ brkT r o = [] := by
  have kn := knows nr no' hr (pos_gl no' (by omega)) hb
  have sm := meets_sum (f := fun n => n) rfl m
  rw [map_id_sum, map_id_sum, map_id_sum] at sm
  have rnn : ∀ n ∈ restW ws o', 0 ≤ n := fun n hn => (rest_mem hn).elim (fun z => by omega) (no' n)
  have rdv : ∀ n ∈ restW ws o', (gl r : Int) ∣ n := fun n hn => (rest_mem hn).elim (fun z => by rw [z]; exact ⟨0, by simp⟩) (kn.dv n)
  have rs0 := sum_nn rnn
  have hleft : r.sum - (wA ws).sum = (restW ws o').sum := by omega
  have hmeq : ∀ p, (∀ n ∈ restW ws o', n = 0) → o'.getD p 0 = (wA ws).getD p 0 := fun p hz => by
    cases hw : ws[p]? with
    | none =>
      have := List.getElem?_eq_none_iff.mp hw
      rw [List.getD_eq_getElem?_getD, List.getD_eq_getElem?_getD, List.getElem?_eq_none (by rw [m.1]; exact this), List.getElem?_eq_none (by rw [wA_len]; exact this)]
    | some w =>
      cases w with
      | none =>
        have h1 := rest_at (ws := ws) (o := o') (p := p) m.1
        rw [if_pos hw] at h1
        rw [← h1]
        have hp : p < (restW ws o').length := by rw [rest_len m.1]; exact (List.getElem?_eq_some_iff.mp hw).1
        rw [hz _ (getD_mem hp), List.getD_eq_getElem?_getD, wA_none hw]; rfl
      | some v => rw [List.getD_eq_getElem?_getD, List.getD_eq_getElem?_getD, wA_some hw, m.2 p v hw]
  have zeroO : (restW ws o').sum = 0 → o' = wA ws := fun hz => by
    have hall : ∀ n ∈ restW ws o', n = 0 := fun n hn => by
      have := mem_le_sumG rnn n hn
      have := rnn n hn
      omega
    exact ext0 (by rw [m.1, wA_len]) fun p _ => hmeq p hall
  have fr0 : free r ws ws.length = [] → (restW ws o').sum = 0 := fun hf => sum_zero fun n hn => by
    obtain ⟨p, hp, e⟩ := List.getElem_of_mem hn
    have h1 := rest_at (ws := ws) (o := o') (p := p) m.1
    rw [getD_eq hp, e] at h1
    rw [h1]
    split
    · rename_i hw
      by_cases h0 : 0 < r.getD p 0
      · have := mem_free hw h0
        rw [hf] at this
        cases this
      · refine kn.noth p ?_
        have := at_nn nr p
        omega
    · rfl
  -- it is filled
  obtain ⟨o, ho⟩ : ∃ o, fillF r ws = some o := by
    unfold fillF
    rw [if_neg (show ¬ _ from fun z => by
      rcases z with z | ⟨z1, z2⟩
      · omega
      · have := fr0 z2; omega)]
    split
    · exact ⟨_, rfl⟩
    · split <;> exact ⟨_, rfl⟩
  refine ⟨o, ho, ?_⟩
  have F := fill_form ho
  have hwv : ∀ v, some v ∈ ws → 0 ≤ v := fun v hv => by
    obtain ⟨p, hp⟩ := List.getElem?_of_mem hv
    exact no' _ (List.mem_of_getElem? (m.2 p v hp))
  have nno := F.nn hwv
  have len : r.length = o.length := by rw [F.meets.1, l]
  have Adv := wA_dvd m kn.dv
  have ldv : (gl r : Int) ∣ r.sum - (wA ws).sum := by rw [hleft]; exact sum_dvd rdv
  have so := meets_sum (f := oddF (v2 (gl r))) (oddF_zero _) m
  have sr := oddF_sum (v2 (gl r)) (l := restW ws o')
  have hodd := kn.odd
  have hsetdv : ∀ {l : List Int} {p : Nat} {x : Int}, (∀ n ∈ l, (gl r : Int) ∣ n) → (gl r : Int) ∣ x → ∀ n ∈ l.set p x, (gl r : Int) ∣ n := fun hl hx n hn => by
    rcases List.mem_or_eq_of_mem_set hn with z | z
    · exact hl n z
    · rw [z]; exact hx
  -- a row with twice the unit in it
  have even : (∀ n ∈ o, (gl r : Int) ∣ n) → 2 * (gl r : Int) ∈ o → (o.map (oddF (v2 (gl r)))).sum ≤ (o'.map (oddF (v2 (gl r)))).sum → brkT r o = [] := fun dv h2 hle => by
    refine brk_of_cl len (cl_of nr nno hr F.sum (F.noth m kn.noth) (gl_between nno dv h2 hr) (by omega) ?_)
    refine sum_lt_of (fun n hn => oddF_le _ (nno n hn)) ⟨_, h2, ?_⟩
    rw [oddF_two rfl]
    unfold posF
    rw [if_pos (by omega)]
    decide
  cases F with
  | none h hs =>
    rw [← zeroO (by omega)]
    exact hb
  | two p q hp hq hp0 hq0 hne hl =>
    have hq' : q < (wA ws).length := by rw [wA_len]; exact (List.getElem?_eq_some_iff.mp hq).1
    refine even (hsetdv (hsetdv Adv ⟨2, by rw [Int.mul_comm]⟩) (Int.dvd_sub ldv ⟨2, by rw [Int.mul_comm]⟩)) ?_ ?_
    · refine List.mem_of_getElem? (i := q) ?_
      rw [List.getElem?_set_ne hne, List.getElem?_set_self hq']
    · rw [sum_setF _ (y := 0) (by rw [List.getElem?_set_ne hne.symm]; exact wA_none hp), sum_setF _ (wA_none hq), oddF_zero, oddF_two rfl, oddF_sub rfl, so, hleft]
      omega
  | one p hp h0 hl hh hk =>
    have hp' : p < (wA ws).length := by rw [wA_len]; exact (List.getElem?_eq_some_iff.mp hp).1
    by_cases hone : (free r ws ws.length).length ≤ 1
    · -- one place alone is free
      have hfr : free r ws ws.length = [(p : Int)] := by
        have hm := mem_free hp h0
        match hf : free r ws ws.length, hone with
        | [], _ => rw [hf] at hm; cases hm
        | [x], _ =>
          rw [hf] at hm
          rw [List.mem_singleton.mp hm]
      have e : o' = (wA ws).set p (o'.getD p 0) := ext0 (by rw [List.length_set, m.1, wA_len]) fun q hq => by
        by_cases hqp : p = q
        · subst hqp
          rw [List.getD_eq_getElem?_getD (l := (wA ws).set p _), List.getElem?_set_self hp']; rfl
        · rw [List.getD_eq_getElem?_getD (l := (wA ws).set p _), List.getElem?_set_ne hqp, ← List.getD_eq_getElem?_getD]
          cases hw : ws[q]? with
          | none => rw [List.getElem?_eq_none_iff] at hw; rw [m.1] at hq; omega
          | some w =>
            cases w with
            | some v => rw [List.getD_eq_getElem?_getD, List.getD_eq_getElem?_getD, wA_some hw, m.2 q v hw]
            | none =>
              have hz : r.getD q 0 = 0 := by
                by_cases h0' : 0 < r.getD q 0
                · have := mem_free hw h0'
                  rw [hfr] at this
                  have := List.mem_singleton.mp this
                  omega
                · have := at_nn nr q
                  omega
              rw [kn.noth q hz, List.getD_eq_getElem?_getD, wA_none hw]; rfl
      have hs := congrArg List.sum e
      have hs2 := sum_setF (fun n => n) (l := wA ws) (p := p) (x := o'.getD p 0) (wA_none hp)
      rw [map_id_sum, map_id_sum] at hs2
      have hv : o'.getD p 0 = r.sum - (wA ws).sum := by omega
      rw [hv] at e
      rw [← e]
      exact hb
    have hle := hk.resolve_left hone
    by_cases hz : (restW ws o').sum = 0
    · have e : (wA ws).set p (r.sum - (wA ws).sum) = wA ws := by
        rw [hleft, hz]
        refine ext0 (List.length_set ..) fun q _ => ?_
        by_cases hqp : p = q
        · subst hqp
          rw [List.getD_eq_getElem?_getD, List.getElem?_set_self hp', List.getD_eq_getElem?_getD, wA_none hp]
        · rw [List.getD_eq_getElem?_getD, List.getElem?_set_ne hqp, ← List.getD_eq_getElem?_getD]
      rw [e, ← zeroO hz]
      exact hb
    obtain ⟨c, hc⟩ := ldv
    have hc2 : c = 1 ∨ c = 2 := by
      have h1 : 0 < (gl r : Int) * c := by omega
      have h2 : (gl r : Int) * c ≤ (gl r : Int) * 2 := by omega
      have h3 := Int.le_of_mul_le_mul_left h2 (by omega)
      have h4 : 0 < c := Int.lt_of_not_ge fun z => by have := Int.mul_le_mul_of_nonneg_left z (show 0 ≤ (gl r : Int) by omega); omega
      omega
    have dvo : ∀ n ∈ (wA ws).set p (r.sum - (wA ws).sum), (gl r : Int) ∣ n := hsetdv Adv ⟨c, hc⟩
    have oo : (((wA ws).set p (r.sum - (wA ws).sum)).map (oddF (v2 (gl r)))).sum = ((wA ws).map (oddF (v2 (gl r)))).sum + oddF (v2 (gl r)) (r.sum - (wA ws).sum) := by
      rw [sum_setF _ (wA_none hp), oddF_zero]; omega
    have hmem : r.sum - (wA ws).sum ∈ (wA ws).set p (r.sum - (wA ws).sum) := List.mem_of_getElem? (List.getElem?_set_self hp')
    rcases hc2 with rfl | rfl
    · -- the unit itself is left
      rw [Int.mul_one] at hc
      have hgo : gl ((wA ws).set p (r.sum - (wA ws).sum)) = gl r := by
        refine Nat.dvd_antisymm ?_ (all_dvd nno dvo)
        have h5 := gl_dvd hmem
        have h6 : (r.sum - (wA ws).sum).toNat = gl r := by rw [hc]; exact Int.toNat_natCast _
        rw [h6] at h5; exact h5
      have pu : oddF (v2 (gl r)) (gl r : Int) = 1 := by
        unfold oddF
        rw [if_neg fun z => ?_]
        have h1 := Int.dvd_of_emod_eq_zero z
        have h2 : 2 ^ (v2 (gl r) + 1) ∣ gl r := by
          refine Int.natCast_dvd_natCast.mp ?_
          rw [Int.natCast_pow]; exact h1
        have := (pow_dvd_iff hr).mp h2
        omega
      have hrest : (restW ws o').sum = gl r := by omega
      rw [hrest, pu] at sr
      -- one alone beside the wishes has something
      have two : ∀ a b : Nat, a ≠ b → 0 < (restW ws o').getD a 0 → 0 < (restW ws o').getD b 0 → False := fun a b hab ha hb2 => by
        have la : a < (restW ws o').length := Nat.lt_of_not_le fun z => by rw [List.getD_eq_getElem?_getD, List.getElem?_eq_none z] at ha; cases ha
        have lb : b < (restW ws o').length := Nat.lt_of_not_le fun z => by rw [List.getD_eq_getElem?_getD, List.getElem?_eq_none z] at hb2; cases hb2
        have h1 := two_le_sum rnn la lb hab
        have h2 := Int.le_of_dvd ha (rdv _ (getD_mem la))
        have h3 := Int.le_of_dvd hb2 (rdv _ (getD_mem lb))
        omega
      have hne : r ≠ o' := fun z => by
        obtain ⟨a, b, ca⟩ := last_ne (l := free r ws ws.length) (by omega) (free_nodup r ws ws.length)
        obtain ⟨x, ex, hx1, hx2, hx3⟩ := free_mem a
        obtain ⟨y, ey, hy1, hy2, hy3⟩ := free_mem b
        refine two x y (fun w => ca (by rw [ex, ey, w])) ?_ ?_
        · rw [rest_at m.1, if_pos hx2, ← z]; exact hx3
        · rw [rest_at m.1, if_pos hy2, ← z]; exact hy3
      unfold brkT at hb
      rw [if_neg hne, if_neg (fun z => z kn.len.symm)] at hb
      have c := cl_iff.mp hb
      have sp := meets_sum (f := posF) rfl m
      have prest : ((restW ws o').map posF).sum ≤ 1 := by
        rw [← pos_sum]
        match hf : (restW ws o').filter fun n => decide (0 < n) with
        | [] => decide
        | [x] => simp
        | x :: y :: l2 =>
          exfalso
          have hlt : 1 < (hold (restW ws o') (restW ws o').length).length := by rw [hold_all, hf]; simp
          match hh2 : hold (restW ws o') (restW ws o').length, hlt with
          | i :: j :: l3, _ =>
            have hi : i ∈ hold (restW ws o') (restW ws o').length := by rw [hh2]; exact List.mem_cons_self
            have hj : j ∈ hold (restW ws o') (restW ws o').length := by rw [hh2]; exact List.mem_cons_of_mem _ List.mem_cons_self
            obtain ⟨a, ea, ha1, ha2⟩ := hold_get hi
            obtain ⟨b, eb, hb1, hb2⟩ := hold_get hj
            have nd : (hold (restW ws o') (restW ws o').length).Nodup := by
              unfold hold
              refine List.Pairwise.map _ ?_ ((List.nodup_range).filter _)
              intro a b h z
              exact h (by omega)
            rw [hh2] at nd
            have hij : i ≠ j := fun z => (List.nodup_cons.mp nd).1 (by rw [z]; exact List.mem_cons_self)
            exact two a b (fun z => hij (by rw [ea, eb, z])) ha2 hb2
      have pp : (((wA ws).set p (r.sum - (wA ws).sum)).map posF).sum = ((wA ws).map posF).sum + 1 := by
        rw [sum_setF posF (wA_none hp), hc]
        have h1 : posF (gl r : Int) = 1 := by unfold posF; rw [if_pos (by omega)]
        have h2 : posF 0 = 0 := rfl
        omega
      rw [hc] at oo
      rw [pu] at oo
      have v2o : v2 (gl o') = v2 (gl r) := by
        have h1 := c.tw
        refine Nat.le_antisymm (Nat.le_of_not_lt fun z => ?_) h1
        have h2 : (o'.map (oddF (v2 (gl r)))).sum = 0 := sum_zero fun x hx => by
          obtain ⟨n, hn, rfl⟩ := List.mem_map.mp hx
          exact oddF_dvd (pow_dvdI ((pow_dvd_iff (pos_gl no' (by omega))).mpr z) (gl_dvdI (no' n hn) hn))
        have h3 := sum_nn (l := (wA ws).map (oddF (v2 (gl r)))) fun x hx => by obtain ⟨n, _, rfl⟩ := List.mem_map.mp hx; exact oddF_nn _ n
        omega
      have dbl := c.dbl v2o
      have d1 := od_sum no'
      rw [v2o] at d1
      have d2 := hold_pos o'
      have d3 : (o'.map (oddF (v2 (gl r)))).sum ≤ (o'.map posF).sum := sum_le_of (l := o') (fun n hn => oddF_le (v2 (gl r)) (no' n hn))
      refine brk_of_cl len (cl_of nr nno hr (Fill.one p hp h0 hl hh hk).sum ((Fill.one p hp h0 hl hh hk).noth m kn.noth) (.inl hgo) ?_ ?_)
      · rw [hc]; omega
      · rw [pp, hc]; omega
    · refine even dvo ?_ ?_
      · rw [show 2 * (gl r : Int) = r.sum - (wA ws).sum by omega]; exact hmem
      · rw [oo, so, hleft]
        omega
/-- all is wished -/
theorem wish_all {r o : List Int} : wishF r (o.map some) = if o.sum = r.sum ∧ brkT r o = [] then some o else none := by
  have ef : free r (o.map some) (o.map some).length = [] := by
    cases h : free r (o.map some) (o.map some).length with
    | nil => rfl
    | cons x l =>
      obtain ⟨p, _, _, hp, _⟩ := free_mem (r := r) (ws := o.map some) (x := x) (by rw [h]; exact List.mem_cons_self)
      rw [List.getElem?_map] at hp
      obtain ⟨y, _, hy⟩ := Option.map_eq_some_iff.mp hp
      cases hy
  have eA : wA (o.map some) = o := by unfold wA; rw [List.map_map]; exact List.map_id _
  unfold wishF fillF
  rw [ef, eA]
  by_cases hs : o.sum = r.sum
  · rw [if_neg (show ¬ (r.sum - o.sum < 0 ∨ 0 < r.sum - o.sum ∧ ([] : List Int) = []) from fun z => by rcases z with z | z <;> omega), if_neg (show ¬ (1 < ([] : List Int).length ∧ _) from fun z => by have := z.1; simp at this), if_pos rfl]
    by_cases hb : brkT r o = []
    · rw [if_pos ⟨hs, hb⟩]
      show (if brkT r o = [] then some o else none) = some o
      rw [if_pos hb]
    · rw [if_neg (fun z => hb z.2)]
      show (if brkT r o = [] then some o else none) = none
      rw [if_neg hb]
  · rw [if_pos (show r.sum - o.sum < 0 ∨ 0 < r.sum - o.sum ∧ ([] : List Int) = [] from by
      rcases Int.lt_or_gt_of_ne hs with z | z
      · exact .inr ⟨by omega, rfl⟩
      · exact .inl (by omega)), if_neg (fun z => hs z.1)]
/-- what is told where some row comes that meets the wishes -/
theorem wish_some {r : List Int} {ws : List (Option Int)} {o' : List Int} (l : ws.length = r.length) (nr : ∀ n ∈ r, 0 ≤ n) (hr : 0 < gl r) (m : Meets ws o') (no' : ∀ n ∈ o', 0 ≤ n) (hb : brkT r o' = []) (hS : 0 < r.sum) (hS' : o'.sum = r.sum) : ∃ o, wishF r ws = some o := by
  obtain ⟨o, h1, h2⟩ := fill_best l nr hr m no' hb hS hS'
  exact ⟨o, by unfold wishF; rw [h1]; show (if brkT r o = [] then some o else none) = some o; rw [if_pos h2]⟩
theorem wish_told {r : List Int} {ws : List (Option Int)} {o : List Int} (h : wishF r ws = some o) : fillF r ws = some o ∧ brkT r o = [] := by
  unfold wishF at h
  split at h
  · rename_i x hx
    split at h
    · rename_i hb
      cases h
      exact ⟨hx, hb⟩
    · cases h
  · cases h
theorem brk_sum {r o : List Int} (h : brkT r o = []) : o.sum = r.sum := by
  unfold brkT at h
  split at h
  · rename_i e; rw [e]
  · split at h
    · cases h
    · exact (cl_iff.mp h).sum
/-- one place let alone -/
theorem wish_one {r o : List Int} {p : Nat} (l : o.length = r.length) (hp : p < o.length) (nr : ∀ n ∈ r, 0 ≤ n) (no : ∀ n ∈ o, 0 ≤ n) (hr : 0 < gl r) (hS : 0 < r.sum) (hs : o.sum = r.sum) :
    wishF r ((o.map some).set p none) = if brkT r o = [] then some o else none := by
  have hw : ((o.map some).set p none)[p]? = some none := List.getElem?_set_self (by rw [List.length_map]; exact hp)
  have hm : Meets ((o.map some).set p none) o := by
    refine ⟨by rw [List.length_set, List.length_map], fun q v hq => ?_⟩
    have hne : p ≠ q := fun z => by rw [← z, hw] at hq; cases hq
    rw [List.getElem?_set_ne hne, List.getElem?_map] at hq
    obtain ⟨y, hy, e⟩ := Option.map_eq_some_iff.mp hq
    cases e
    exact hy
  have key : ∀ o2, wishF r ((o.map some).set p none) = some o2 → o2 = o := fun o2 h2 => by
    obtain ⟨h1, h3⟩ := wish_told h2
    have F := fill_form h1
    have mm := F.meets
    have e : o2 = o.set p (o2.getD p 0) := ext0 (by rw [List.length_set, mm.1, List.length_set, List.length_map]) fun q hq => by
      by_cases hqp : p = q
      · subst hqp
        rw [List.getD_eq_getElem?_getD (l := o.set p _), List.getElem?_set_self hp]; rfl
      · rw [List.getD_eq_getElem?_getD (l := o.set p _), List.getElem?_set_ne hqp]
        have hq' : q < o.length := by rw [mm.1, List.length_set, List.length_map] at hq; exact hq
        rw [List.getD_eq_getElem?_getD, mm.2 q o[q] (by rw [List.getElem?_set_ne hqp, List.getElem?_map, List.getElem?_eq_getElem hq']; rfl), List.getElem?_eq_getElem hq']
    have hsum := congrArg List.sum e
    have h4 := F.sum
    have hs2 := sum_setF (fun n => n) (l := o) (p := p) (x := o2.getD p 0) (y := o[p]) (List.getElem?_eq_getElem hp)
    rw [map_id_sum, map_id_sum] at hs2
    have hv : o2.getD p 0 = o[p] := by omega
    rw [hv, List.set_getElem_self] at e
    exact e
  by_cases hb : brkT r o = []
  · rw [if_pos hb]
    obtain ⟨o2, h2⟩ := wish_some (by rw [List.length_set, List.length_map, l]) nr hr hm no hb hS hs
    rw [h2, key o2 h2]
  · rw [if_neg hb]
    cases h : wishF r ((o.map some).set p none) with
    | none => rfl
    | some o2 =>
      have e := key o2 h
      subst e
      exact absurd (wish_told h).2 hb
end MG

namespace K84
open PySem PySem.Spec PyProof.Rows L2 MG
abbrev sHolders : Stmt := topS 13
abbrev sHfn : Stmt := topS 19
abbrev sAsked : Stmt := topS 20
abbrev sBroken : Stmt := topS 22
abbrev nBroken : List Str := ["row", "other", "clauses", "clause", "is_broken"]
theorem scHolders : FnScope ["row", "place", "amount"] ["row"] (defScope sHolders) := ⟨rfl, rfl, rfl, by decide +kernel, rfl, by decide +kernel, by decide +kernel⟩
theorem scHfn : FnScope ["row", "other", "before", "behind"] ["row", "other"] (defScope sHfn) := ⟨rfl, rfl, rfl, by decide +kernel, rfl, by decide +kernel, by decide +kernel⟩
theorem scAsked : FnScope ["row", "other", "as_many_twos"] ["row", "other"] (defScope sAsked) := ⟨rfl, rfl, rfl, by decide +kernel, rfl, by decide +kernel, by decide +kernel⟩
theorem scBroken : FnScope ["row", "other", "clauses", "clause", "is_broken"] ["row", "other"] (defScope sBroken) := ⟨rfl, rfl, rfl, by decide +kernel, rfl, by decide +kernel, by decide +kernel⟩
section
variable {P : Program} {w : World} {K : PySem.W.Frag} {mg : Str → Option Value} {base : Heap}
def spHolders : Sp := fun vs H Q _ => ∃ a ns, vs = [.ref a] ∧ H a = some (.tup (ns.map V.int)) ∧ ns.length ≤ 40 ∧
  ∀ H' p, Same H H' → H' p = some (.tup ((hold ns ns.length).map V.int)) → Q (.ref p) H'
theorem ok_holders {f : Addr} {fd : FuncData} {k : Nat} (F : Fun K "holders" "holders" sHolders f fd) (mT : mg "tuple" = none) (mE : mg "enumerate" = none) :
    FnOk P w K mg base CX0 (k + 1) f fd ["row"] spHolders := by
  refine F.ok scHolders (fun vs H Q E h => ?_) (fun cdv A outer s H vs Q E hr h => ?_)
  · obtain ⟨a, ns, rfl, _⟩ := h
    rfl
  · obtain ⟨a, ns, rfl, e, hl, q⟩ := h
    refine ⟨_, pss_one (ps_ret (pe_callTy call_tuple_of (by rfl) mT (by decide +kernel) (pa_cons
      (pe_lc (own := [("place", 1), ("amount", 2)]) (g := gTup K 2 (gCons (gName 1) (gCons (gName 2) gNil))) rfl scHolders.nd (pi_enumT (by rfl) mE (pa_cons (pv 0) pa_nil))
        (blkOk_by (N := ["row", "place", "amount"]) (sc := defScope sHolders) (by decide +kernel))
        (fun _ _ _ _ _ => pg_tup rfl (pgs_cons (pg_name (i := 1) scHolders.nd rfl (.inl rfl) (.inr rfl)) (pgs_cons (pg_name (i := 2) scHolders.nd rfl (.inl rfl) (.inr rfl)) pgs_nil)))
        (fun _ _ _ _ _ => pts_one (pt_cmpR op_gt (pv 2) pe_int (nomark _)))
        (fun _ _ _ _ _ => pv 1)) pa_nil))), ?_⟩
    have hS : SqT K H a (ns.map V.int) := SqT.of e
    refine ⟨.ref a, rfl, a, ns.map V.int, rfl, hS, fun D nD => ?_⟩
    refine lc_it (walk_enumT (K := K) (a := a) (xs := ns.map V.int)) (fun i H' => Same H H' ∧ H' D = some (.lst ((hold ns i).map V.int))) ⟨same_upd nD, upd_same⟩ ?_ ?_ ?_
    · intro i H' _ h
      exact SqT.of (h.1 _ _ e)
    · rintro i x H' H'' hi ⟨sm, hD⟩ ⟨T, x1, x2, rfl, nT, rfl, e1, e2⟩
      rw [List.length_map] at hi
      have e1' : x1 = .int (i : Nat) := (Option.some.inj e1).symm
      have e2' : x2 = .int ns[i] := by
        have z : (ns.map V.int)[i]? = some x2 := e2
        rw [List.getElem?_map, List.getElem?_eq_getElem hi] at z
        exact (Option.some.inj z).symm
      subst e1' e2'
      have smT : Same H' (upd H' T (.tup [.int (i : Nat), .int ns[i]])) := same_upd nT
      have hg : ns.getD i 0 = ns[i] := by rw [List.getD_eq_getElem?_getD, List.getElem?_eq_getElem hi]; rfl
      refine ⟨T, [.int (i : Nat), .int ns[i]], rfl, .inl (.inl upd_same), rfl, .int (i : Nat), [.int ns[i]], rfl, .int ns[i], [], rfl, rfl, rfl, _, rfl, ns[i], 0, rfl, rfl, _, rfl, ?_⟩
      refine ite2 (fun hp => ?_) (fun hp => ?_)
      · have hp' : 0 < ns[i] := of_decide_eq_true hp
        refine ⟨.int (i : Nat), rfl, _, smT _ _ hD, ?_, ?_, ?_⟩
        · rw [List.length_map]
          exact small1000 (Nat.le_trans (hold_len ns i) (by omega))
        · intro c o hc
          rw [upd_ne (ne_of_none hc nD)]
          exact smT _ _ (sm c o hc)
        · rw [upd_same, hold_succ, hg, if_pos hp', List.map_append]
          rfl
      · have hp' : ¬ 0 < ns[i] := fun z => hp (decide_eq_true z)
        refine ⟨sm.trans smT, ?_⟩
        rw [hold_succ, hg, if_neg hp', List.append_nil]
        exact smT _ _ hD
    · rintro H' ⟨sm, hD⟩
      rw [List.length_map] at hD
      refine ⟨D, _, rfl, .inl ⟨.inl (.inl hD), fun p np => ?_⟩⟩
      exact q _ p (sm.trans (same_upd np)) upd_same

def hfnL (r o : List Int) : List Bool := (r.zip o).map fun p => decide (p.1 = 0) && decide (p.2 > 0)
def spHfn : Sp := fun vs H Q _ => ∃ a b r o, vs = [.ref a, .ref b] ∧ H a = some (.tup (List.map V.int r)) ∧ H b = some (.tup (List.map V.int o)) ∧ r.length = o.length ∧ r.length ≤ 40 ∧ ∀ H', Same H H' → Q (.bl (hfn r o)) H'
theorem ok_hfn {f : Addr} {fd : FuncData} {k : Nat} (F : Fun K "has_from_nothing" "has_from_nothing" sHfn f fd) (mA : mg "any" = none) (mZ : mg "zip" = none) :
    FnOk P w K mg base CX0 (k + 1) f fd ["row", "other"] spHfn := by
  refine F.ok scHfn (fun vs H Q E h => ?_) (fun cdv A outer s H vs Q E hr h => ?_)
  · obtain ⟨a, b, r, o, rfl, _⟩ := h
    rfl
  · obtain ⟨a, b, r, o, rfl, ea, eb, hl, hn, q⟩ := h
    refine ⟨_, pss_one (ps_ret (pe_callB (cr_any rfl) (by rfl) mA (by decide +kernel) (pa_cons
      (pe_lc (own := [("before", 2), ("behind", 3)]) (g := gTup K 2 (gCons (gName 2) (gCons (gName 3) gNil))) (tt := tYes) rfl scHfn.nd (RZ.pi_zipA (by rfl) mZ (pa_cons (pv 0) (pa_cons (pv 1) pa_nil)))
        (blkOk_by (N := ["row", "other", "before", "behind"]) (sc := defScope sHfn) (by decide +kernel))
        (fun _ _ _ _ _ => pg_tup rfl (pgs_cons (pg_name (i := 2) scHfn.nd rfl (.inl rfl) (.inr rfl)) (pgs_cons (pg_name (i := 3) scHfn.nd rfl (.inl rfl) (.inr rfl)) pgs_nil)))
        (fun _ _ _ _ _ => pts_nil)
        (fun _ _ _ _ _ => pe_and (pe_cmpR op_eq (pv 2) pe_int (nomark _)) (pe_one (pe_cmpR op_gt (pv 3) pe_int (nomark _))))) pa_nil))), ?_⟩
    refine ⟨_, rfl, _, rfl, a, b, _, _, rfl, .inr ⟨SqT.of ea, SqT.of eb, fun D nD => ?_⟩⟩
    refine lc_it (walk_zipT (K := K) (a := a) (b := b) (xs := r.map V.int) (ys := o.map V.int) (n := r.length) (by rw [List.length_map, List.length_map]; omega)) (fun i H' => Same H H' ∧ H' D = some (.lst (((hfnL r o).take i).map V.bl))) ⟨same_upd nD, upd_same⟩ ?_ ?_ ?_
    · intro i H' _ h
      exact ⟨SqT.of (h.1 _ _ ea), SqT.of (h.1 _ _ eb)⟩
    · rintro i x H' H'' hi ⟨sm, hD⟩ ⟨T, x1, x2, rfl, nT, rfl, e1, e2⟩
      have hi2 : i < o.length := by omega
      have e1' : x1 = .int r[i] := by
        have z : (r.map V.int)[i]? = some x1 := e1
        rw [List.getElem?_map, List.getElem?_eq_getElem hi] at z
        exact (Option.some.inj z).symm
      have e2' : x2 = .int o[i] := by
        have z : (o.map V.int)[i]? = some x2 := e2
        rw [List.getElem?_map, List.getElem?_eq_getElem hi2] at z
        exact (Option.some.inj z).symm
      subst e1' e2'
      have smT : Same H' (upd H' T (.tup [.int r[i], .int o[i]])) := same_upd nT
      have hz : (hfnL r o)[i]? = some (decide (r[i] = 0) && decide (o[i] > 0)) := by
        unfold hfnL
        rw [List.getElem?_map, (List.getElem?_zip_eq_some (z := (r[i], o[i]))).mpr ⟨List.getElem?_eq_getElem hi, List.getElem?_eq_getElem hi2⟩]
        rfl
      have fin : ∀ y, y = (decide (r[i] = 0) && decide (o[i] > 0)) → ∃ acc, upd H' T (.tup [.int r[i], .int o[i]]) D = some (.lst acc) ∧ acc.length < sizeLine ∧ Same H (upd (upd H' T (.tup [.int r[i], .int o[i]])) D (.lst (acc ++ [V.bl y]))) ∧ upd (upd H' T (.tup [.int r[i], .int o[i]])) D (.lst (acc ++ [V.bl y])) D = some (.lst (((hfnL r o).take (i + 1)).map V.bl)) := fun y hy => by
        refine ⟨_, smT _ _ hD, ?_, ?_, ?_⟩
        · rw [List.length_map, List.length_take]
          exact small1000 (by omega)
        · intro c o hc
          rw [upd_ne (ne_of_none hc nD)]
          exact smT _ _ (sm c o hc)
        · rw [upd_same, List.take_add_one, hz, List.map_append, hy]
          rfl
      refine ⟨T, [.int r[i], .int o[i]], rfl, .inl (.inl upd_same), rfl, .int r[i], [.int o[i]], rfl, .int o[i], [], rfl, rfl, rfl, ?_⟩
      refine ⟨_, rfl, rfl, _, rfl, ?_⟩
      have ez : decide (V.int r[i] = V.int 0) = decide (r[i] = 0) := by
        by_cases z : r[i] = 0
        · rw [z]; rfl
        · rw [decide_eq_false z, decide_eq_false (fun y => z (V.int.inj y))]
      rw [ez]
      refine ite2 (fun hp => ?_) (fun hp => ?_)
      · refine ⟨_, rfl, _, 0, rfl, rfl, ?_⟩
        exact fin _ (by rw [hp]; rfl)
      · have hp' : decide (r[i] = 0) = false := by cases h : decide (r[i] = 0) <;> first | rfl | exact absurd h hp
        exact fin _ (by rw [hp']; rfl)
    · rintro H' ⟨sm, hD⟩
      have hlen : (hfnL r o).length = r.length := by
        unfold hfnL
        rw [List.length_map, List.length_zip]; omega
      rw [← hlen, List.take_length] at hD
      refine ⟨D, hfnL r o, rfl, SqL.of hD, ?_⟩
      have e : (hfnL r o).any id = hfn r o := by
        unfold hfnL hfn
        rw [List.any_map]
        rfl
      rw [e]
      exact q H' sm
end
end K84

namespace K84
open PySem PySem.Spec PyProof.Rows L2 MG
theorem decV (x y : Int) : decide (V.int x = V.int y) = decide (x = y) := by
  by_cases h : x = y
  · rw [h]; simp
  · rw [decide_eq_false h, decide_eq_false (fun z => h (V.int.inj z))]
theorem decN (a b : Nat) : decide ((a : Int) = (b : Int)) = decide (a = b) := by
  by_cases h : a = b
  · rw [h]; simp
  · rw [decide_eq_false h, decide_eq_false (fun z => h (by omega))]
theorem decL (a b : Nat) : decide ((a : Int) < (b : Int)) = decide (a < b) := by
  by_cases h : a < b
  · rw [decide_eq_true h, decide_eq_true (show (a : Int) < b by omega)]
  · rw [decide_eq_false h, decide_eq_false (show ¬ (a : Int) < b by omega)]
theorem notD (p : Prop) [Decidable p] : (!decide p) = decide (¬ p) := by
  by_cases h : p
  · rw [decide_eq_true h, decide_eq_false (fun z => z h)]; rfl
  · rw [decide_eq_false h, decide_eq_true h]; rfl
section
variable {P : Program} {w : World} {K : PySem.W.Frag} {mg : Str → Option Value} {base : Heap}
def spAsked : Sp := fun vs H Q _ => ∃ a b r o, vs = [.ref a, .ref b] ∧ Row H a r ∧ Row H b o ∧ r.length = o.length ∧ ∀ H' p ts, Same H H' → H' p = some (.tup (ts.map V.ref)) → PairsAt H' ts (asked r o) → Q (.ref p) H'
theorem ok_asked {f fT fN fM fO fH : Addr} {fd fdT fdN fdM fdO fdH : FuncData} {k : Nat} (F : Fun K "asked_of_any" "asked_of_any" sAsked f fd)
    (FT : Fun K "twos" "twos" sTwos fT fdT) (bT : Binds K fdT ["row"] []) (gT : mg "twos" = some (.ref fT)) (GT : FnOk P w K mg base CX0 (k + 3) fT fdT ["row"] spTwos)
    (FN : Fun K "has_from_nothing" "has_from_nothing" sHfn fN fdN) (bN : Binds K fdN ["row", "other"] []) (gN : mg "has_from_nothing" = some (.ref fN)) (GN : FnOk P w K mg base CX0 (k + 1) fN fdN ["row", "other"] spHfn)
    (FM : Fun K "measure" "measure" sMeasure fM fdM) (bM : Binds K fdM ["row"] []) (gM : mg "measure" = some (.ref fM)) (GM : FnOk P w K mg base CX0 (k + 3) fM fdM ["row"] spMeasure)
    (FO : Fun K "odd_ones" "odd_ones" sOddOnes fO fdO) (bO : Binds K fdO ["row"] []) (gO : mg "odd_ones" = some (.ref fO)) (GO : FnOk P w K mg base CX0 (k + 4) fO fdO ["row"] spOddOnes)
    (FH : Fun K "holders" "holders" sHolders fH fdH) (bH : Binds K fdH ["row"] []) (gH : mg "holders" = some (.ref fH)) (GH : FnOk P w K mg base CX0 (k + 1) fH fdH ["row"] spHolders)
    (mS : mg "sum" = none) (ml : mg "len" = none) : FnOk P w K mg base CX0 (k + 5) f fd ["row", "other"] spAsked := by
  refine F.ok scAsked (fun vs H Q E h => ?_) (fun cdv A outer s H vs Q E hr h => ?_)
  · obtain ⟨a, b, r, o, rfl, _⟩ := h
    rfl
  · obtain ⟨a, b, r, o, rfl, ra, rb, hl, q⟩ := h
    have hr1 := hr.mono (show k + 1 ≤ k + 4 by omega)
    have hr3 := hr.mono (show k + 3 ≤ k + 4 by omega)
    refine ⟨_, pss_cons (ps_set (i := 2) scAsked.nd rfl (.inl rfl) (pe_cmpR op_eq (pe_call GT hr3 (by rfl) gT FT.kp bT .nil pass0 (pa_cons (pv 1) pa_nil)) (pe_call GT hr3 (by rfl) gT FT.kp bT .nil pass0 (pa_cons (pv 0) pa_nil)) (nomark _)))
      (pss_one (ps_ret (pe_tup (pa_cons
        (pe_tup (pa_cons pe_str (pa_cons (pe_cmpR op_ne (pe_callB (sumT rfl) (by rfl) mS (by decide +kernel) (pa_cons (pv 1) pa_nil)) (pe_callB (sumT rfl) (by rfl) mS (by decide +kernel) (pa_cons (pv 0) pa_nil)) (nomark _)) pa_nil))) (pa_cons
        (pe_tup (pa_cons pe_str (pa_cons (pe_call GN hr1 (by rfl) gN FN.kp bN .nil pass0 (pa_cons (pv 0) (pa_cons (pv 1) pa_nil))) pa_nil))) (pa_cons
        (pe_tup (pa_cons pe_str (pa_cons (pe_cmpR op_ne (pe_call GM hr3 (by rfl) gM FM.kp bM .nil pass0 (pa_cons (pv 1) pa_nil)) (pe_call GM hr3 (by rfl) gM FM.kp bM .nil pass0 (pa_cons (pv 0) pa_nil)) (nomark _)) pa_nil))) (pa_cons
        (pe_tup (pa_cons pe_str (pa_cons (pe_cmpR op_lt (pe_call GT hr3 (by rfl) gT FT.kp bT .nil pass0 (pa_cons (pv 1) pa_nil)) (pe_call GT hr3 (by rfl) gT FT.kp bT .nil pass0 (pa_cons (pv 0) pa_nil)) (nomark _)) pa_nil))) (pa_cons
        (pe_tup (pa_cons pe_str (pa_cons (pe_and (pv 2) (pe_one (pe_cmpR op_gt (pe_call GO hr (by rfl) gO FO.kp bO .nil pass0 (pa_cons (pv 1) pa_nil)) (pe_call GO hr (by rfl) gO FO.kp bO .nil pass0 (pa_cons (pv 0) pa_nil)) (nomark _)))) pa_nil))) (pa_cons
        (pe_tup (pa_cons pe_str (pa_cons (pe_and (pv 2) (pe_one (pe_cmpR op_eq (pe_call GO hr (by rfl) gO FO.kp bO .nil pass0 (pa_cons (pv 1) pa_nil))
          (pe_callB call_len_seq (by rfl) ml PySem.boot_len (pa_cons (pe_call GH hr1 (by rfl) gH FH.kp bH .nil pass0 (pa_cons (pv 1) pa_nil)) pa_nil)) (nomark _)))) pa_nil))) pa_nil))))))))), ?_⟩
    refine ⟨_, rfl, b, o, rfl, rb, _, rfl, a, r, rfl, ra, rfl, ?_⟩
    rw [decV, decN]
    refine ⟨_, rfl, b, o, rfl, SqT.of rb.1, _, rfl, a, r, rfl, SqT.of ra.1, rfl, by show 2 ≤ sizeLine; decide, fun t1 n1 => ?_⟩
    rw [decV, notD]
    have s1 : Same H (upd H t1 (.tup [.str "sum", .bl (decide (¬ o.sum = r.sum))])) := same_upd n1
    have e1 : upd H t1 (.tup [.str "sum", .bl (decide (¬ o.sum = r.sum))]) t1 = some (.tup [.str "sum", .bl (decide (¬ o.sum = r.sum))]) := upd_same
    generalize upd H t1 (HO.tup [.str "sum", .bl (decide (¬ o.sum = r.sum))]) = H1 at s1 e1 ⊢
    have ra1 := ra.same s1
    have rb1 := rb.same s1
    refine ⟨_, rfl, _, rfl, a, b, r, o, rfl, ra1.1, rb1.1, hl, ra.2.2.1, fun G2 sG2 => ⟨by show 2 ≤ sizeLine; decide, fun t2 n2 => ?_⟩⟩
    have s2 : Same H1 (upd G2 t2 (.tup [.str "nothing", .bl (hfn r o)])) := sG2.trans (same_upd n2)
    have e2 : upd G2 t2 (.tup [.str "nothing", .bl (hfn r o)]) t2 = some (.tup [.str "nothing", .bl (hfn r o)]) := upd_same
    generalize upd G2 t2 (HO.tup [.str "nothing", .bl (hfn r o)]) = H2 at s2 e2 ⊢
    have ra2 := ra1.same s2
    have rb2 := rb1.same s2
    refine ⟨_, rfl, b, o, rfl, rb2, _, rfl, a, r, rfl, ra2, rfl, by show 2 ≤ sizeLine; decide, fun t3 n3 => ?_⟩
    rw [decV, notD]
    have s3 : Same H2 (upd H2 t3 (.tup [.str "measure", .bl (decide (¬ ms o = ms r))])) := same_upd n3
    have e3 : upd H2 t3 (.tup [.str "measure", .bl (decide (¬ ms o = ms r))]) t3 = some (.tup [.str "measure", .bl (decide (¬ ms o = ms r))]) := upd_same
    show tCons _ _ _ (upd H2 t3 (.tup [.str "measure", .bl (decide (¬ ms o = ms r))])) _
    generalize upd H2 t3 (HO.tup [.str "measure", .bl (decide (¬ ms o = ms r))]) = H3 at s3 e3 ⊢
    have ra3 := ra2.same s3
    have rb3 := rb2.same s3
    refine ⟨_, rfl, b, o, rfl, rb3, _, rfl, a, r, rfl, ra3, _, _, rfl, rfl, by show 2 ≤ sizeLine; decide, fun t4 n4 => ?_⟩
    dsimp only
    rw [decL]
    have s4 : Same H3 (upd H3 t4 (.tup [.str "twos", .bl (decide (v2 (gl o) < v2 (gl r)))])) := same_upd n4
    have e4 : upd H3 t4 (.tup [.str "twos", .bl (decide (v2 (gl o) < v2 (gl r)))]) t4 = some (.tup [.str "twos", .bl (decide (v2 (gl o) < v2 (gl r)))]) := upd_same
    generalize upd H3 t4 (HO.tup [.str "twos", .bl (decide (v2 (gl o) < v2 (gl r)))]) = H4 at s4 e4 ⊢
    have ra4 := ra3.same s4
    have rb4 := rb3.same s4
    have S4 := s1.trans (s2.trans (s3.trans s4))
    have fin : ∀ (G : Hp) (t5 t6 p : Addr), Same H4 G → G t5 = some (.tup [.str "odd ones", .bl (decide (v2 (gl o) = v2 (gl r)) && decide (od r < od o))]) →
        G t6 = some (.tup [.str "doubled", .bl (decide (v2 (gl o) = v2 (gl r)) && decide (od o = (hold o o.length).length))]) → G p = some (.tup ([t1, t2, t3, t4, t5, t6].map V.ref)) → Q (.ref p) G := by
      intro G t5 t6 p sG h5 h6 hp
      refine q G p [t1, t2, t3, t4, t5, t6] (S4.trans sG) hp ?_
      exact .cons (sG _ _ (s4 _ _ (s3 _ _ (s2 _ _ e1)))) (.cons (sG _ _ (s4 _ _ (s3 _ _ e2))) (.cons (sG _ _ (s4 _ _ e3)) (.cons (sG _ _ e4) (.cons h5 (.cons h6 .nil)))))
    cases hA : decide (v2 (gl o) = v2 (gl r)) with
    | false =>
      rw [hA] at fin
      refine ⟨_, rfl, _, rfl, iteF ⟨by show 2 ≤ sizeLine; decide, fun t5 n5 => ?_⟩⟩
      refine ⟨_, rfl, _, rfl, iteF ⟨by show 2 ≤ sizeLine; decide, fun t6 n6 => ?_⟩⟩
      refine ⟨by show 6 ≤ sizeLine; decide, fun p np => ?_⟩
      exact fin _ t5 t6 p ((same_upd n5).trans ((same_upd n6).trans (same_upd np))) (same_upd np _ _ (same_upd n6 _ _ upd_same)) (same_upd np _ _ upd_same) upd_same
    | true =>
      rw [hA] at fin
      refine ⟨_, rfl, _, rfl, iteT ⟨_, rfl, b, o, rfl, rb4, fun G5 z5 => ⟨_, rfl, a, r, rfl, ra4.same z5, fun G6 z6 => ?_⟩⟩⟩
      refine ⟨_, _, rfl, rfl, by show 2 ≤ sizeLine; decide, fun t5 n5 => ?_⟩
      have e5' : decide (((fewT (v2 (gl r)) r).length : Int) < ((fewT (v2 (gl o)) o).length : Int)) = decide (od r < od o) := decL _ _
      dsimp only
      rw [e5']
      have s5 : Same H4 (upd G6 t5 (.tup [.str "odd ones", .bl (decide (od r < od o))])) := z5.trans (z6.trans (same_upd n5))
      have e5 : upd G6 t5 (.tup [.str "odd ones", .bl (decide (od r < od o))]) t5 = some (.tup [.str "odd ones", .bl (decide (od r < od o))]) := upd_same
      generalize upd G6 t5 (HO.tup [.str "odd ones", .bl (decide (od r < od o))]) = H5 at s5 e5 ⊢
      have rb5 := rb4.same s5
      refine ⟨_, rfl, _, rfl, iteT ⟨_, rfl, b, o, rfl, rb5, fun G7 z7 => ⟨_, rfl, b, o, rfl, (rb5.same z7).1, rb5.2.2.1, fun G8 ph z8 e8 => ?_⟩⟩⟩
      refine ⟨ph, _, rfl, .inr (SqT.of e8), rfl, by show 2 ≤ sizeLine; decide, fun t6 n6 => ?_⟩
      rw [decV, List.length_map, decN]
      refine ⟨by show 6 ≤ sizeLine; decide, fun p np => ?_⟩
      refine fin _ t5 t6 p (s5.trans (z7.trans (z8.trans ((same_upd n6).trans (same_upd np))))) (same_upd np _ _ (same_upd n6 _ _ (z8 _ _ (z7 _ _ e5)))) (same_upd np _ _ upd_same) upd_same
def spBroken : Sp := fun vs H Q _ => ∃ a b r o, vs = [.ref a, .ref b] ∧ Row H a r ∧ Row H b o ∧ (r = o ∨ 3 ≤ (hold r r.length).length) ∧ ∀ H' p, Same H H' → H' p = some (.tup ((brkT r o).map V.str)) → Q (.ref p) H'
theorem ok_broken {f fA fH : Addr} {fd fdA fdH : FuncData} {k : Nat} (F : Fun K "broken" "broken" sBroken f fd)
    (FA : Fun K "asked_of_any" "asked_of_any" sAsked fA fdA) (bA : Binds K fdA ["row", "other"] []) (gA : mg "asked_of_any" = some (.ref fA)) (GA : FnOk P w K mg base CX0 (k + 5) fA fdA ["row", "other"] spAsked)
    (FH : Fun K "holders" "holders" sHolders fH fdH) (bH : Binds K fdH ["row"] []) (gH : mg "holders" = some (.ref fH)) (GH : FnOk P w K mg base CX0 (k + 1) fH fdH ["row"] spHolders)
    (ml : mg "len" = none) (mT : mg "tuple" = none) : FnOk P w K mg base CX0 (k + 6) f fd ["row", "other"] spBroken := by
  refine F.ok scBroken (fun vs H Q E h => ?_) (fun cdv A outer s H vs Q E hr h => ?_)
  · obtain ⟨a, b, r, o, rfl, _⟩ := h
    rfl
  · obtain ⟨a, b, r, o, rfl, ra, rb, h3, q⟩ := h
    have hr1 := hr.mono (show k + 1 ≤ k + 5 by omega)
    refine ⟨_, pss_cons (ps_if (pt_cmpR (op_eqD hr.units) (pv 0) (pv 1) (nomark _)) (pss_one (ps_ret (pe_tup pa_nil))) pss_nil)
      (pss_cons (ps_if (pt_cmpR op_ne (pe_callB call_len_seq (by rfl) ml PySem.boot_len (pa_cons (pv 0) pa_nil)) (pe_callB call_len_seq (by rfl) ml PySem.boot_len (pa_cons (pv 1) pa_nil)) (nomark _)) (pss_one (ps_ret (pe_tup (pa_cons pe_str pa_nil)))) pss_nil)
      (pss_cons (ps_set (i := 2) scBroken.nd rfl (.inl rfl) (pe_callTy call_tuple_of (by rfl) mT (by decide +kernel) (pa_cons
        (pe_lc (own := [("clause", 3), ("is_broken", 4)]) (g := gTup K 2 (gCons (gName 3) (gCons (gName 4) gNil))) rfl scBroken.nd (pi_tup (pe_call GA hr (by rfl) gA FA.kp bA .nil pass0 (pa_cons (pv 0) (pa_cons (pv 1) pa_nil))))
          (blkOk_by (N := nBroken) (sc := defScope sBroken) (by decide +kernel))
          (fun _ _ _ _ _ => pg_tup rfl (pgs_cons (pg_name (i := 3) scBroken.nd rfl (.inl rfl) (.inr rfl)) (pgs_cons (pg_name (i := 4) scBroken.nd rfl (.inl rfl) (.inr rfl)) pgs_nil)))
          (fun _ _ _ _ _ => pts_one (pt_val (pv 4)))
          (fun _ _ _ _ _ => pv 3)) pa_nil)))
      (pss_cons (ps_if (PW.pt (pw_or (pt_truth (pv 2) (by intro _; rfl)) (pw_or1 (pt_cmpR op_gt (pe_callB call_len_seq (by rfl) ml PySem.boot_len (pa_cons (pe_call GH hr1 (by rfl) gH FH.kp bH .nil pass0 (pa_cons (pv 0) pa_nil)) pa_nil)) pe_int (nomark _))))) (pss_one (ps_ret (pv 2))) pss_nil)
      pss_never))), ?_⟩
    refine ⟨_, rfl, _, rfl, _, _, .tup (SqT.of ra.1) (dpIntsG r), .tup (SqT.of rb.1) (dpIntsG o), shapedT_ints r, shapedT_ints o, _, rfl, ?_⟩
    rw [eqv_rows]
    unfold brkT at q
    refine ite2 (fun he => ?_) (fun he => ?_)
    · have he' := of_decide_eq_true he
      rw [if_pos he'] at q
      exact ⟨by show 0 ≤ sizeLine; decide, fun p np => q _ p (same_upd np) upd_same⟩
    have he' : ¬ r = o := fun z => he (decide_eq_true z)
    have h3 := h3.resolve_left he'
    rw [if_neg he'] at q
    refine ⟨_, rfl, a, _, rfl, .inr (SqT.of ra.1), _, rfl, b, _, rfl, .inr (SqT.of rb.1), rfl, _, rfl, ?_⟩
    rw [List.length_map, List.length_map, decV, decN, notD]
    refine ite2 (fun hn => ?_) (fun hn => ?_)
    · have hn' := of_decide_eq_true hn
      rw [if_pos hn'] at q
      exact ⟨by show 1 ≤ sizeLine; decide, fun p np => q _ p (same_upd np) upd_same⟩
    have hl : r.length = o.length := Decidable.of_not_not fun z => hn (decide_eq_true z)
    rw [if_neg (fun z => z hl)] at q
    refine ⟨_, rfl, _, rfl, a, b, r, o, rfl, ra, rb, hl, fun H1 p1 ts s1 e1 pr => ?_⟩
    refine ⟨p1, rfl, ⟨_, SqT.of e1⟩, fun D nD => ?_⟩
    have prl := pr.1
    refine lc_tup (K := K) (a := p1) (xs := ts.map V.ref) (fun i H' => Same H1 H' ∧ H' D = some (.lst (((((asked r o).take i).filter fun p => p.2).map fun p => p.1).map V.str))) ⟨same_upd nD, upd_same⟩ ?_ ?_ ?_
    · rintro i H' _ ⟨sm, _⟩
      exact SqT.of (sm _ _ e1)
    · rintro i x H' hx ⟨sm, hD⟩
      rw [List.getElem?_map] at hx
      obtain ⟨t, ht, rfl⟩ := Option.map_eq_some_iff.mp hx
      have hi : i < ts.length := (List.getElem?_eq_some_iff.mp ht).1
      have hc : (asked r o)[i]? = some (asked r o)[i] := List.getElem?_eq_getElem (by omega)
      generalize (asked r o)[i] = c at hc
      have et := sm _ _ (pr.2 i t c ht hc)
      refine ⟨t, _, rfl, SqT.of et, rfl, .str c.1, [.bl c.2], rfl, .bl c.2, [], rfl, rfl, rfl, _, rfl, c.2, rfl, ?_⟩
      have e1 : (asked r o).take (i + 1) = (asked r o).take i ++ [c] := by rw [List.take_add_one, hc]; rfl
      cases hb : c.2 with
      | true =>
        refine iteT ⟨_, rfl, _, hD, ?_, ?_, ?_⟩
        · rw [List.length_map, List.length_map]
          refine small1000 (Nat.le_trans (List.length_filter_le _ _) ?_)
          rw [List.length_take]
          have : (asked r o).length = 6 := rfl
          omega
        · intro c o hc
          rw [upd_ne (ne_of_none hc nD)]
          exact sm c o hc
        · rw [upd_same, e1, List.filter_append, List.map_append, List.map_append, List.filter_cons_of_pos (by simpa using hb)]
          rfl
      | false =>
        refine iteF ⟨sm, ?_⟩
        rw [e1, List.filter_append, List.filter_cons_of_neg (by rw [hb]; exact Bool.false_ne_true), List.filter_nil, List.append_nil]
        exact hD
    rintro H2 ⟨s2, hD⟩
    rw [List.length_map, prl, List.take_length] at hD
    refine ⟨D, _, rfl, .inl ⟨SqL.of hD, fun pc npc => ?_⟩⟩
    have s3 : Same H (upd H2 pc (.tup ((clausesOf r o).map V.str))) := s1.trans (s2.trans (same_upd npc))
    have e3 : upd H2 pc (.tup ((clausesOf r o).map V.str)) pc = some (.tup ((clausesOf r o).map V.str)) := upd_same
    have ec : ((((asked r o).filter fun p => p.2).map fun p => p.1).map V.str) = (clausesOf r o).map V.str := rfl
    rw [ec]
    generalize upd H2 pc (HO.tup ((clausesOf r o).map V.str)) = H3 at s3 e3 ⊢
    refine ⟨_, rfl, _, .inr (.inl ⟨_, SqT.of e3, rfl⟩), ?_⟩
    cases hk : (!((clausesOf r o).map V.str).isEmpty) with
    | true => exact iteT (iteT ⟨_, rfl, q H3 pc s3 e3⟩)
    | false =>
      refine iteF ⟨_, rfl, a, r, rfl, (ra.same s3).1, ra.2.2.1, fun H4 p4 s4 e4 => ⟨p4, _, rfl, .inr (SqT.of e4), _, _, rfl, rfl, _, rfl, ?_⟩⟩
      rw [List.length_map]
      refine ite2 (fun _ => ⟨_, rfl, q H4 pc (s3.trans s4) (s4 _ _ e3)⟩) (fun z => ?_)
      exact absurd (decide_eq_true (by omega)) z
end
end K84

namespace K84
open PySem PySem.Spec PyProof.Rows L2 MG
abbrev sComes : Stmt := topS 23
abbrev nComes : List Str := ["row", "other"]
theorem scComes : FnScope ["row", "other"] ["row", "other"] (defScope sComes) := ⟨rfl, rfl, rfl, by decide +kernel, rfl, by decide +kernel, by decide +kernel⟩
abbrev sRef : Stmt := topS 26
abbrev nRef : List Str := ["row"]
theorem scRef : FnScope ["row"] ["row"] (defScope sRef) := ⟨rfl, rfl, rfl, by decide +kernel, rfl, by decide +kernel, by decide +kernel⟩
abbrev sFree : Stmt := topS 28
abbrev nFree : List Str := ["amount", "wish"]
theorem scFree : FnScope ["amount", "wish"] ["amount", "wish"] (defScope sFree) := ⟨rfl, rfl, rfl, by decide +kernel, rfl, by decide +kernel, by decide +kernel⟩
abbrev sFill : Stmt := topS 29
abbrev nFill : List Str := ["row", "wishes", "wish", "amounts", "left", "place", "free"]
theorem scFill : FnScope ["row", "wishes", "wish", "amounts", "left", "place", "free"] ["row", "wishes"] (defScope sFill) := ⟨rfl, rfl, rfl, by decide +kernel, rfl, by decide +kernel, by decide +kernel⟩
abbrev sWish : Stmt := topS 30
abbrev nWish : List Str := ["row", "wishes", "behind"]
theorem scWish : FnScope ["row", "wishes", "behind"] ["row", "wishes"] (defScope sWish) := ⟨rfl, rfl, rfl, by decide +kernel, rfl, by decide +kernel, by decide +kernel⟩
abbrev sCan : Stmt := topS 31
abbrev nCan : List Str := ["row", "wishes"]
theorem scCan : FnScope ["row", "wishes"] ["row", "wishes"] (defScope sCan) := ⟨rfl, rfl, rfl, by decide +kernel, rfl, by decide +kernel, by decide +kernel⟩
section
variable {P : Program} {w : World} {K : PySem.W.Frag} {mg : Str → Option Value} {base : Heap}
def spComes : Sp := fun vs H Q _ => ∃ a b r o, vs = [.ref a, .ref b] ∧ Row H a r ∧ Row H b o ∧ (r = o ∨ 3 ≤ (hold r r.length).length) ∧ ∀ H', Same H H' → Q (.bl (decide (brkT r o = []))) H'
theorem ok_comes {f fK : Addr} {fd fdK : FuncData} {k : Nat} (F : Fun K "comes" "comes" sComes f fd)
    (FK : Fun K "broken" "broken" sBroken fK fdK) (bK : Binds K fdK ["row", "other"] []) (gK : mg "broken" = some (.ref fK)) (GK : FnOk P w K mg base CX0 (k + 6) fK fdK ["row", "other"] spBroken) :
    FnOk P w K mg base CX0 (k + 7) f fd ["row", "other"] spComes := by
  refine F.ok scComes (fun vs H Q E h => ?_) (fun cdv A outer s H vs Q E hr h => ?_)
  · obtain ⟨a, b, r, o, rfl, _⟩ := h
    rfl
  · obtain ⟨a, b, r, o, rfl, ra, rb, h3, q⟩ := h
    have hr6 := hr
    refine ⟨_, pss_one (ps_ret (pe_cmpR (op_eqD hr.units) (pe_call GK hr6 (by rfl) gK FK.kp bK .nil pass0 (pa_cons (pv 0) (pa_cons (pv 1) pa_nil))) (pe_tup pa_nil) (nomark _))), ?_⟩
    refine ⟨_, rfl, _, rfl, a, b, r, o, rfl, ra, rb, h3, fun G p s1 e1 => ⟨by show 0 ≤ sizeLine; decide, fun e0 n0 => ?_⟩⟩
    have s2 : Same G (upd G e0 (.tup [])) := same_upd n0
    refine ⟨.tuple ((brkT r o).map PyData.str), .tuple (([] : List Str).map PyData.str), .tup (SqT.of (s2 _ _ e1)) (dpStrsG _), .tup (SqT.of upd_same) .nil, shapedT_strs _ (brk_layG r o), rfl, ?_⟩
    rw [eqv_strs]
    exact q _ (s1.trans s2)
def spRef : Sp := fun vs H Q _ => ∃ a ns, vs = [.ref a] ∧ H a = some (.tup (ns.map V.int)) ∧ ns.length ≤ 40 ∧ 3 ≤ (hold ns ns.length).length ∧ ∀ H', Same H H' → Q .non H'
theorem ok_ref {f fH : Addr} {fd fdH : FuncData} {k : Nat} {tFew : Tok} (F : Fun K "refuse_too_few" "refuse_too_few" sRef f fd) (FH : Fun K "holders" "holders" sHolders fH fdH) (bH : Binds K fdH ["row"] []) (gH : mg "holders" = some (.ref fH)) (GH : FnOk P w K mg base CX0 (k + 1) fH fdH ["row"] spHolders)
    (gFew : mg "FEWEST_HOLDERS" = some (.int 3 tFew)) (m_len : mg "len" = none) : FnOk P w K mg base CX0 (k + 2) f fd ["row"] spRef := by
  refine F.ok scRef (fun vs H Q E h => ?_) (fun cdv A outer s H vs Q E hr h => ?_)
  · obtain ⟨a, ns, rfl, _⟩ := h
    rfl
  · obtain ⟨a, ns, rfl, ea, hl, h3, q⟩ := h
    have hr1 := hr
    refine ⟨_, pss_one (ps_if (pt_cmpR op_lt (pe_callB call_len_seq (by rfl) m_len PySem.boot_len (pa_cons (pe_call GH hr1 (by rfl) gH FH.kp bH .nil pass0 (pa_cons (pv 0) pa_nil)) pa_nil)) (pe_glob (v := .int 3) (by rfl) gFew ⟨_, rfl⟩) (nomark _)) pss_never pss_nil), ?_⟩
    refine ⟨_, rfl, a, ns, rfl, ea, hl, fun H1 p1 s1 e1 => ⟨p1, _, rfl, .inr (SqT.of e1), _, _, rfl, rfl, _, rfl, ?_⟩⟩
    rw [List.length_map, decide_eq_false (by omega)]
    exact iteF (q H1 s1)
def spFree : Sp := fun vs H Q _ => ∃ (n : Int) (w : Option Int), vs = [.int n, wV w] ∧ Q (.bl (w.isNone && decide (0 < n))) H
theorem ok_free {f : Addr} {fd : FuncData} {k : Nat} (F : Fun K "is_free" "is_free" sFree f fd) : FnOk P w K mg base CX0 (k + 1) f fd ["amount", "wish"] spFree := by
  refine F.ok scFree (fun vs H Q E h => ?_) (fun cdv A outer s H vs Q E hr h => ?_)
  · obtain ⟨n, w, rfl, _⟩ := h
    rfl
  · obtain ⟨n, w, rfl, q⟩ := h
    refine ⟨_, pss_one (ps_ret (pe_and (pe_cmpR op_isN (pv 1) pe_non (nomark _)) (pe_one (pe_cmpR op_gt (pv 0) pe_int (nomark _))))), ?_⟩
    refine ⟨_, rfl, rfl, _, rfl, ?_⟩
    rw [wV_non]
    cases w with
    | some v => exact iteF q
    | none => exact iteT ⟨_, rfl, n, 0, rfl, rfl, q⟩
def spFill : Sp := fun vs H Q _ => ∃ a b r ws, vs = [.ref a, .ref b] ∧ Row H a r ∧ H b = some (.tup (ws.map wV)) ∧ ws.length = r.length ∧ (fillF r ws = none → ∀ H', Same H H' → Q .non H') ∧ ∀ o H' p, fillF r ws = some o → Same H H' → H' p = some (.tup (o.map V.int)) → Q (.ref p) H'
theorem ok_fill {f fI fW : Addr} {fd fdI fdW : FuncData} {k : Nat} (F : Fun K "filled" "filled" sFill f fd)
    (FI : Fun K "is_free" "is_free" sFree fI fdI) (bI : Binds K fdI ["amount", "wish"] []) (gI : mg "is_free" = some (.ref fI))
    (FW : Fun K "unit" "unit" sUnit fW fdW) (bW : Binds K fdW ["row"] []) (gW : mg "unit" = some (.ref fW)) (GW : FnOk P w K mg base CX0 (k + 2) fW fdW ["row"] spUnit)
    (m_sum : mg "sum" = none) (m_len : mg "len" = none) (m_enumerate : mg "enumerate" = none) (m_tuple : mg "tuple" = none) : FnOk P w K mg base CX0 (k + 3) f fd ["row", "wishes"] spFill := by
  have GI : FnOk P w K mg base CX0 (k + 1) fI fdI ["amount", "wish"] spFree := ok_free FI
  refine F.ok scFill (fun vs H Q E h => ?_) (fun cdv A outer s H vs Q E hr h => ?_)
  · obtain ⟨a, b, r, ws, rfl, _⟩ := h
    rfl
  · obtain ⟨a, b, r, ws, rfl, ra, eb, hl, q0, q1⟩ := h
    have hr2 := hr
    have hr1 := hr.mono (show k + 1 ≤ k + 2 by omega)
    have h40 := ra.2.2.1
    refine ⟨_, pss_cons (ps_setLc (i := 3) (own := [("wish", 2)]) (g := gName 2) (tt := tYes) rfl scFill.nd rfl rfl (sw_true rfl rfl rfl (by decide +kernel)) (pi_tup (pv 1)) (blkOk_by (N := nFill) (sc := defScope sFill) (by decide +kernel)) (fun _ _ _ _ _ => pg_name (i := 2) scFill.nd rfl (Or.inl rfl)) (fun _ _ _ _ _ => pts_nil) (fun _ _ _ _ _ => pe_ifExp (pt_cmpR op_isN (pv 2) pe_non (nomark _)) pe_int (pv 2)))
      (pss_cons (ps_set (i := 4) scFill.nd rfl (.inl rfl) (pe_op op_sub (pe_callB (sumT rfl) (by rfl) m_sum (by decide +kernel) (pa_cons (pv 0) pa_nil)) (pe_callB (cr_sum rfl) (by rfl) m_sum (by decide +kernel) (pa_cons (pv 3) pa_nil))))
      (pss_cons (ps_setLc (i := 6) (own := [("place", 5), ("wish", 2)]) (g := gTup K 2 (gCons (gName 5) (gCons (gName 2) gNil))) (tt := tB (tCall spFree [] _ (tCons (tOp (rIxT K) _ _) (tCons _ tNil)))) rfl scFill.nd rfl rfl (sw_true rfl rfl rfl (by decide +kernel)) (pi_enumT (by rfl) m_enumerate (pa_cons (pv 1) pa_nil)) (blkOk_by (N := nFill) (sc := defScope sFill) (by decide +kernel)) (fun _ _ _ _ _ => pg_tup rfl (pgs_cons (pg_name (i := 5) scFill.nd rfl (.inl rfl) (.inr rfl)) (pgs_cons (pg_name (i := 2) scFill.nd rfl (.inl rfl) (.inr rfl)) pgs_nil))) (fun _ _ _ _ _ => pts_one (pt_val (pe_call GI hr1 (by rfl) gI FI.kp bI .nil pass0 (pa_cons (pe_ix ix_tup (pv 0) (pv 5) (fun _ _ => rfl)) (pa_cons (pv 2) pa_nil))))) (fun _ _ _ _ _ => pv 5))
      (pss_mid (ps_if (PW.pt (pw_or (pt_cmpR op_lt (pv 4) pe_int (nomark _)) (pw_or1 (PW.pt (pw_and (pt_cmpR op_gt (pv 4) pe_int (nomark _)) (pw_and1 (pt_not (pt_truth (pv 6) (by intro _; rfl))))))))) (pss_one (ps_ret pe_non)) pss_nil)
      (pss_mid (ps_if (PW.pt (pw_and (pt_cmpR op_gt (pe_callB call_len_seq (by rfl) m_len PySem.boot_len (pa_cons (pv 6) pa_nil)) pe_int (nomark _)) (pw_and1 (pt_cmpR op_gt (pv 4) (pe_op op_mul pe_int (pe_call GW hr2 (by rfl) gW FW.kp bW .nil pass0 (pa_cons (pv 0) pa_nil))) (nomark _))))) (pss_cons (ps_asg (pe_op op_mul pe_int (pe_call GW hr2 (by rfl) gW FW.kp bW .nil pass0 (pa_cons (pv 0) pa_nil))) (pg_sub (pv 3) (pe_bm0 PySem.F.plainAttrs_list PySem.F.slot_list_pop PySem.F.type_list_pop mt_pop (pv 6)) set_list))
      (pss_one (ps_aug (i := 4) scFill.nd rfl (.inl rfl) (pe_op op_mul pe_int (pe_call GW hr2 (by rfl) gW FW.kp bW .nil pass0 (pa_cons (pv 0) pa_nil))) ip_sub))) pss_nil)
      (pss_mid (ps_if (pt_truth (pv 6) (by intro _; rfl)) (pss_one (ps_asg (pv 4) (pg_sub (pv 3) (pe_ix ix_list (pv 6) pe_int (fun _ _ => rfl)) set_list))) pss_nil)
      (pss_one (ps_ret (pe_callTy call_tuple_of (by rfl) m_tuple (by decide +kernel) (pa_cons (pv 3) pa_nil))))))))), ?_⟩
    refine ⟨_, rfl, b, rfl, ⟨_, SqT.of eb⟩, fun D nD => ?_⟩
    refine lc_tup (K := K) (a := b) (xs := ws.map wV) (fun i H' => Same H H' ∧ H' D = some (.lst (((wA ws).take i).map V.int))) ⟨same_upd nD, upd_same⟩ ?_ ?_ ?_
    · rintro i H' _ ⟨sm, _⟩
      exact SqT.of (sm _ _ eb)
    · rintro i x H' hx ⟨sm, hD⟩
      rw [List.getElem?_map] at hx
      obtain ⟨w0, hw0, rfl⟩ := Option.map_eq_some_iff.mp hx
      have e1 : (wA ws).take (i + 1) = (wA ws).take i ++ [w0.getD 0] := by
        rw [List.take_add_one]
        unfold wA
        rw [List.getElem?_map, hw0]; rfl
      have hz : (((wA ws).take i).map V.int).length < sizeLine := by
        rw [List.length_map]
        refine small1000 ?_
        rw [List.length_take, wA_len]
        omega
      have fin : Same H (upd H' D (.lst (((wA ws).take i).map V.int ++ [.int (w0.getD 0)]))) ∧ upd H' D (.lst (((wA ws).take i).map V.int ++ [.int (w0.getD 0)])) D = some (.lst (((wA ws).take (i + 1)).map V.int)) := by
        refine ⟨fun c o hc => ?_, ?_⟩
        · rw [upd_ne (ne_of_none hc nD)]
          exact sm c o hc
        · rw [upd_same, e1, List.map_append]; rfl
      refine ⟨rfl, _, rfl, rfl, _, rfl, ?_⟩
      rw [wV_non]
      cases w0 with
      | none => exact iteT ⟨_, hD, hz, fin⟩
      | some v => exact iteF ⟨_, rfl, _, hD, hz, fin⟩
    rintro H1 ⟨s1, hD1⟩
    rw [List.length_map, ← wA_len ws, List.take_length] at hD1
    refine ⟨_, rfl, a, r, rfl, SqT.of (s1 _ _ ra.1), _, rfl, D, wA ws, rfl, SqL.of hD1, _, _, rfl, rfl, ?_⟩
    have eb1 := s1 _ _ eb
    refine ⟨_, rfl, b, _, rfl, SqT.of eb1, fun D2 nD2 => ?_⟩
    refine lc_it (walk_enumT (K := K) (a := b) (xs := ws.map wV)) (fun i H' => Same H1 H' ∧ H' D2 = some (.lst ((free r ws i).map V.int))) ⟨same_upd nD2, upd_same⟩ ?_ ?_ ?_
    · intro i H' _ h
      exact SqT.of (h.1 _ _ eb1)
    · rintro m x H' H'' hm ⟨sm, hD⟩ ⟨T, x1, x2, rfl, nT, rfl, e1, e2⟩
      rw [List.length_map] at hm
      have e1' : x1 = .int (m : Nat) := (Option.some.inj e1).symm
      have e2' : x2 = wV ws[m] := by
        have z : (ws.map wV)[m]? = some x2 := e2
        rw [List.getElem?_map, List.getElem?_eq_getElem hm] at z
        exact (Option.some.inj z).symm
      subst e1' e2'
      have smT : Same H' (upd H' T (.tup [.int (m : Nat), wV ws[m]])) := same_upd nT
      have ea2 := smT _ _ (sm _ _ (s1 _ _ ra.1))
      refine ⟨T, [.int (m : Nat), wV ws[m]], rfl, .inl (.inl upd_same), rfl, .int (m : Nat), [wV ws[m]], rfl, wV ws[m], [], rfl, rfl, rfl, _, rfl, _, rfl, a, _, (m : Int), .int (r.getD m 0), rfl, rfl, SqT.of ea2, atI_nat (getD_at (by omega)), _, rfl, r.getD m 0, ws[m], rfl, _, rfl, ?_⟩
      have hfr : (ws[m].isNone && decide (0 < r.getD m 0)) = isFr r ws m := by
        unfold isFr
        rw [List.getD_eq_getElem?_getD (l := ws), List.getElem?_eq_getElem hm]; rfl
      rw [hfr]
      cases hf : isFr r ws m with
      | true =>
        refine iteT ⟨_, rfl, _, smT _ _ hD, ?_, ?_, ?_⟩
        · rw [List.length_map]
          exact small1000 (Nat.le_trans (free_len r ws m) (by omega))
        · intro c o hc
          rw [upd_ne (ne_of_none hc nD2)]
          exact smT _ _ (sm c o hc)
        · rw [upd_same, free_succ, hf, if_pos rfl, List.map_append]; rfl
      | false =>
        refine iteF ⟨sm.trans smT, ?_⟩
        rw [free_succ, hf, if_neg Bool.false_ne_true, List.append_nil]
        exact smT _ _ hD
    rintro H2 ⟨s2, hD2⟩
    rw [List.length_map] at hD2
    have hDne : D ≠ D2 := ne_of_none hD1 nD2
    have eD := s2 _ _ hD1
    have s12 := s1.trans s2
    have hD2free : H1 D2 = none := nD2
    generalize hfr : free r ws ws.length = fr at hD2
    have hfill : fillF r ws = if r.sum - (wA ws).sum < 0 ∨ (0 < r.sum - (wA ws).sum ∧ fr = []) then none
        else if 1 < fr.length ∧ 2 * (gl r : Int) < r.sum - (wA ws).sum then
          some (((wA ws).set (fr.getLastD 0).toNat (2 * (gl r : Int))).set (fr.headD 0).toNat (r.sum - (wA ws).sum - 2 * (gl r : Int)))
        else if fr = [] then some (wA ws) else some ((wA ws).set (fr.headD 0).toNat (r.sum - (wA ws).sum)) := by
      unfold fillF
      rw [hfr]
    have hfrm : ∀ x ∈ fr, ∃ p : Nat, x = p ∧ p < ws.length := fun x hx => by
      rw [← hfr] at hx
      obtain ⟨p, e, h, _⟩ := free_mem hx
      exact ⟨p, e, h⟩
    have hfrl : fr.length ≤ ws.length := by rw [← hfr]; exact free_len r ws ws.length
    generalize hlf : r.sum - (wA ws).sum = left at hfill
    have nDH : H D = none := nD
    have nD2H : H D2 = none := by
      cases h : H D2 with
      | none => rfl
      | some o => rw [s1 _ _ h] at nD2; cases nD2
    have isE : ∀ l : List Int, (!(l.map V.int).isEmpty) = decide (l ≠ []) := fun l => by cases l <;> rfl
    refine ⟨fun σ G => σ = [some (.ref a), some (.ref b), none, some (.ref D), some (.int left), none, some (.ref D2)] ∧ G = H2 ∧ ¬ (left < 0 ∨ (0 < left ∧ fr = [])), ?_, ?_⟩
    · refine ⟨_, rfl, r.sum - (wA ws).sum, 0, rfl, rfl, _, rfl, ?_⟩
      rw [hlf]
      refine ite2 (fun h1 => ?_) (fun h1 => ?_)
      · have h1' := of_decide_eq_true h1
        exact iteT (q0 (by rw [hfill, if_pos (.inl h1')]) H2 s12)
      · have h1' : ¬ left < 0 := fun z => h1 (decide_eq_true z)
        refine ⟨_, rfl, r.sum - (wA ws).sum, 0, rfl, rfl, _, rfl, ?_⟩
        rw [hlf]
        refine ite2 (fun h2 => ?_) (fun h2 => ?_)
        · have h2' : 0 < left := of_decide_eq_true h2
          refine ⟨.ref D2, rfl, _, .inl ⟨_, SqL.of hD2, rfl⟩, ?_⟩
          rw [isE]
          by_cases h3 : fr = []
          · rw [decide_eq_false (fun z => z h3)]
            exact iteT (q0 (by rw [hfill, if_pos (.inr ⟨h2', h3⟩)]) H2 s12)
          · rw [decide_eq_true h3]
            exact iteF ⟨by rw [← hlf]; rfl, rfl, fun z => z.elim h1' fun z => h3 z.2⟩
        · have h2' : ¬ 0 < left := fun z => h2 (decide_eq_true z)
          exact iteF ⟨by rw [← hlf]; rfl, rfl, fun z => z.elim h1' fun z => h2' z.1⟩
    rintro σ G ⟨rfl, rfl, hN⟩
    rw [if_neg hN] at hfill
    refine ⟨fun σ G' => ∃ (A f2 : List Int) (l2 : Int), σ = [some (.ref a), some (.ref b), none, some (.ref D), some (.int l2), none, some (.ref D2)] ∧ G' D = some (.lst (A.map V.int)) ∧ G' D2 = some (.lst (f2.map V.int)) ∧ Same H G' ∧ A.length = ws.length ∧ (∀ x ∈ f2, ∃ p : Nat, x = p ∧ p < ws.length) ∧ fillF r ws = if f2 = [] then some A else some (A.set (f2.headD 0).toNat l2), ?_, ?_⟩
    · refine ⟨_, rfl, D2, _, rfl, .inl (SqL.of hD2), _, _, rfl, rfl, _, rfl, ?_⟩
      rw [List.length_map]
      have keep : ¬ (1 < fr.length ∧ 2 * (gl r : Int) < left) → ∃ (A f2 : List Int) (l2 : Int), ([some (.ref a), some (.ref b), none, some (.ref D), some (.int left), none, some (.ref D2)] : L2.St) = [some (.ref a), some (.ref b), none, some (.ref D), some (.int l2), none, some (.ref D2)] ∧ G D = some (.lst (A.map V.int)) ∧ G D2 = some (.lst (f2.map V.int)) ∧ Same H G ∧ A.length = ws.length ∧ (∀ x ∈ f2, ∃ p : Nat, x = p ∧ p < ws.length) ∧ fillF r ws = if f2 = [] then some A else some (A.set (f2.headD 0).toNat l2) := fun hB => by
        rw [if_neg hB] at hfill
        exact ⟨wA ws, fr, left, rfl, eD, hD2, s12, wA_len ws, hfrm, hfill⟩
      refine ite2 (fun h1 => ?_) (fun h1 => ?_)
      · have h1' : 1 < fr.length := by have := of_decide_eq_true h1; omega
        refine ⟨_, rfl, _, rfl, a, r, rfl, ra.same s12, 2, (gl r : Int), rfl, rfl, .inl ⟨by decide, by decide⟩, left, _, rfl, rfl, _, rfl, ?_⟩
        refine ite2 (fun h2 => ?_) (fun h2 => ?_)
        · have h2' : 2 * (gl r : Int) < left := of_decide_eq_true h2
          rw [if_pos ⟨h1', h2'⟩] at hfill
          obtain ⟨xs, x, rfl⟩ : ∃ xs x, fr = xs ++ [x] := by
            rcases List.eq_nil_or_concat fr with z | ⟨xs, x, z⟩
            · rw [z] at h1'; cases h1'
            · exact ⟨xs, x, by rw [z, List.concat_eq_append]⟩
          obtain ⟨px, epx, hpx⟩ := hfrm x (List.mem_append_right _ (List.mem_singleton.mpr rfl))
          have elast : (xs ++ [x]).getLastD 0 = x := by simp
          have ehead : (xs ++ [x]).headD 0 = xs.headD 0 := by
            cases xs with
            | nil => rw [List.nil_append] at h1'; exact absurd h1' (by simp)
            | cons y l => rfl
          have hxs : xs ≠ [] := fun z => by rw [z, List.nil_append] at h1'; exact absurd h1' (by simp)
          refine ⟨_, rfl, a, r, rfl, ra.same s12, 2, (gl r : Int), rfl, rfl, .inl ⟨by decide, by decide⟩, _, rfl, _, rfl, .inl ⟨rfl, _, SqL.of hD2⟩, ?_⟩
          refine ⟨D2, _, .int x, rfl, rfl, hD2, ?_, ?_⟩
          · rw [List.length_map, List.length_append, List.getElem?_map]
            show ((xs ++ [x])[xs.length + 1 - 1]?).map V.int = some (.int x)
            rw [Nat.add_sub_cancel, List.getElem?_concat_length]; rfl
          have eDp : (upd G D2 (.lst (((xs ++ [x]).map V.int).dropLast))) D = some (.lst ((wA ws).map V.int)) := by
            rw [upd_ne hDne]; exact eD
          refine ⟨D, _, x, px, rfl, rfl, eDp, ?_, ?_⟩
          · rw [List.length_map, wA_len, epx]; exact ixN_nat hpx
          have sF : Same H (upd (upd G D2 (.lst (((xs ++ [x]).map V.int).dropLast))) D (.lst (((wA ws).map V.int).set px (.int (2 * (gl r : Int)))))) := fun c o hc => by
            rw [upd_ne (ne_of_none hc nDH), upd_ne (ne_of_none hc nD2H)]
            exact s12 _ _ hc
          refine ⟨_, rfl, _, rfl, a, r, rfl, ra.same sF, 2, (gl r : Int), rfl, rfl, .inl ⟨by decide, by decide⟩, left, _, rfl, rfl, ?_⟩
          refine ⟨(wA ws).set px (2 * (gl r : Int)), xs, left - 2 * (gl r : Int), rfl, ?_, ?_, sF, by rw [List.length_set, wA_len], fun y hy => hfrm y (List.mem_append_left _ hy), ?_⟩
          · rw [upd_same, List.map_set]
          · rw [upd_ne hDne.symm, upd_same, List.map_append]
            show some (HO.lst ((List.map V.int xs ++ [V.int x]).dropLast)) = _
            rw [List.dropLast_concat]
          · rw [hfill, elast, ehead, if_neg hxs, epx, Int.toNat_natCast]
        · have h2' : ¬ 2 * (gl r : Int) < left := fun z => h2 (decide_eq_true z)
          exact keep fun z => h2' z.2
      · have h1' : ¬ 1 < fr.length := fun z => h1 (decide_eq_true (by omega))
        exact iteF (keep fun z => h1' z.1)
    rintro σ G' ⟨A2, f2, l2, rfl, eA, ef, sG, lA, hf2, hfill2⟩
    refine ⟨fun σ G'' => ∃ A3 : List Int, σ[3]? = some (some (.ref D)) ∧ G'' D = some (.lst (A3.map V.int)) ∧ Same H G'' ∧ fillF r ws = some A3, ?_, ?_⟩
    · refine ⟨.ref D2, rfl, _, .inl ⟨_, SqL.of ef, rfl⟩, ?_⟩
      rw [isE]
      by_cases h3 : f2 = []
      · rw [decide_eq_false (fun z => z h3)]
        rw [if_pos h3] at hfill2
        exact iteF ⟨A2, rfl, eA, sG, hfill2⟩
      · rw [decide_eq_true h3]
        rw [if_neg h3] at hfill2
        obtain ⟨y, l3, rfl⟩ : ∃ y l3, f2 = y :: l3 := by
          cases f2 with
          | nil => exact absurd rfl h3
          | cons y l3 => exact ⟨y, l3, rfl⟩
        obtain ⟨py, epy, hpy⟩ := hf2 y List.mem_cons_self
        refine iteT ⟨_, rfl, _, rfl, _, rfl, D2, _, 0, .int y, rfl, rfl, SqL.of ef, atI_nat (j := 0) rfl, D, _, y, py, rfl, rfl, eA, ?_, ?_⟩
        · rw [List.length_map, lA, epy]; exact ixN_nat hpy
        refine ⟨A2.set py l2, rfl, ?_, fun c o hc => ?_, ?_⟩
        · rw [upd_same, List.map_set]
        · rw [upd_ne (ne_of_none hc nDH)]
          exact sG _ _ hc
        · rw [hfill2]
          show some (A2.set y.toNat l2) = _
          rw [epy, Int.toNat_natCast]
    rintro σ G'' ⟨A3, eσ, eA3, sG3, hfill3⟩
    exact ⟨_, eσ, D, _, rfl, .inl ⟨SqL.of eA3, fun p np => q1 A3 _ p hfill3 (sG3.trans (same_upd np)) upd_same⟩⟩
/-- what is told of wishes -/
def spWish : Sp := fun vs H Q _ => ∃ a b r ws, vs = [.ref a, .ref b] ∧ Row H a r ∧ H b = some (.tup (ws.map wV)) ∧ ws.length = r.length ∧ (∀ v, some v ∈ ws → 0 ≤ v) ∧ r.sum < 2 ^ 250 ∧ 3 ≤ (hold r r.length).length ∧ (wishF r ws = none → ∀ H', Same H H' → Q .non H') ∧ ∀ o H' p, wishF r ws = some o → Same H H' → H' p = some (.tup (o.map V.int)) → Q (.ref p) H'
theorem row_filled {H : Hp} {p : Addr} {r o : List Int} {ws : List (Option Int)} (hf : fillF r ws = some o) (hw : ∀ v, some v ∈ ws → 0 ≤ v) (hl : ws.length = r.length) (h40 : r.length ≤ 40) (h0 : 0 < r.sum) (hs : r.sum < 2 ^ 250) (e : H p = some (.tup (o.map V.int))) : Row H p o := by
  have F := fill_form hf
  have nn := F.nn hw
  have hsum := F.sum
  refine ⟨e, fun n hn => ⟨nn n hn, ?_⟩, by rw [F.meets.1, hl]; exact h40, ?_⟩
  · have := mem_le_sumG nn n hn
    omega
  · apply Classical.byContradiction
    intro z
    have := sum_zero (l := o) fun n hn => by
      have := nn n hn
      have : ¬ 0 < n := fun y => z ⟨n, hn, y⟩
      omega
    omega
theorem row_sum {H : Hp} {a : Addr} {r : List Int} (h : Row H a r) : 0 < r.sum := by
  obtain ⟨n, hn, h0⟩ := h.2.2.2
  have := mem_le_sumG (fun n hn => (h.2.1 n hn).1) n hn
  omega
theorem ok_wish {f fR fFi fM : Addr} {fd fdR fdFi fdM : FuncData} {k : Nat} (F : Fun K "wished" "wished" sWish f fd)
    (FR : Fun K "refuse_too_few" "refuse_too_few" sRef fR fdR) (bR : Binds K fdR ["row"] []) (gR : mg "refuse_too_few" = some (.ref fR)) (GR : FnOk P w K mg base CX0 (k + 2) fR fdR ["row"] spRef)
    (FFi : Fun K "filled" "filled" sFill fFi fdFi) (bFi : Binds K fdFi ["row", "wishes"] []) (gFi : mg "filled" = some (.ref fFi)) (GFi : FnOk P w K mg base CX0 (k + 3) fFi fdFi ["row", "wishes"] spFill)
    (FM : Fun K "comes" "comes" sComes fM fdM) (bM : Binds K fdM ["row", "other"] []) (gM : mg "comes" = some (.ref fM)) (GM : FnOk P w K mg base CX0 (k + 7) fM fdM ["row", "other"] spComes) :
    FnOk P w K mg base CX0 (k + 8) f fd ["row", "wishes"] spWish := by
  refine F.ok scWish (fun vs H Q E h => ?_) (fun cdv A outer s H vs Q E hr h => ?_)
  · obtain ⟨a, b, r, ws, rfl, _⟩ := h
    rfl
  · obtain ⟨a, b, r, ws, rfl, ra, eb, hl, hw, hs, h3, q0, q1⟩ := h
    have hr7 := hr
    have hr3 := hr.mono (show k + 3 ≤ k + 7 by omega)
    have hr2 := hr.mono (show k + 2 ≤ k + 7 by omega)
    refine ⟨_, pss_cons (ps_expr (pe_call GR hr2 (by rfl) gR FR.kp bR .nil pass0 (pa_cons (pv 0) pa_nil)))
      (pss_cons (ps_set (i := 2) scWish.nd rfl (.inl rfl) (pe_call GFi hr3 (by rfl) gFi FFi.kp bFi .nil pass0 (pa_cons (pv 0) (pa_cons (pv 1) pa_nil))))
      (pss_cons (ps_if (PW.pt (pw_or (pt_cmpR op_isN (pv 2) pe_non (nomark _)) (pw_or1 (pt_not (pt_val (pe_call GM hr7 (by rfl) gM FM.kp bM .nil pass0 (pa_cons (pv 0) (pa_cons (pv 2) pa_nil)))))))) (pss_one (ps_ret pe_non)) pss_nil)
      (pss_one (ps_ret (pv 2))))), ?_⟩
    refine ⟨_, rfl, a, r, rfl, ra.1, ra.2.2.1, h3, fun H1 s1 => ?_⟩
    refine ⟨_, rfl, _, rfl, a, b, r, ws, rfl, ra.same s1, s1 _ _ eb, hl, fun hN H2 s2 => ?_, fun o H2 p hf s2 e2 => ?_⟩
    · exact ⟨_, rfl, rfl, _, rfl, iteT (iteT (q0 (by unfold wishF; rw [hN]) H2 (s1.trans s2)))⟩
    · have s12 := s1.trans s2
      have ro := row_filled hf hw hl ra.2.2.1 (row_sum ra) hs e2
      refine ⟨_, rfl, rfl, _, rfl, iteF ⟨_, rfl, _, rfl, a, p, r, o, rfl, ra.same s12, ro, .inr h3, fun H3 s3 => ⟨_, rfl, ?_⟩⟩⟩
      by_cases hb : brkT r o = []
      · rw [decide_eq_true hb]
        exact iteF ⟨_, rfl, q1 o H3 p (by unfold wishF; rw [hf]; exact if_pos hb) (s12.trans s3) (s3 _ _ e2)⟩
      · rw [decide_eq_false hb]
        exact iteT (q0 (by unfold wishF; rw [hf]; exact if_neg hb) H3 (s12.trans s3))
def spCan : Sp := fun vs H Q _ => ∃ a b r ws, vs = [.ref a, .ref b] ∧ Row H a r ∧ H b = some (.tup (ws.map wV)) ∧ ws.length = r.length ∧ (∀ v, some v ∈ ws → 0 ≤ v) ∧ r.sum < 2 ^ 250 ∧ 3 ≤ (hold r r.length).length ∧ ∀ H', Same H H' → Q (.bl (wishF r ws).isSome) H'
theorem ok_can {f fWi : Addr} {fd fdWi : FuncData} {k : Nat} (F : Fun K "can_be" "can_be" sCan f fd)
    (FWi : Fun K "wished" "wished" sWish fWi fdWi) (bWi : Binds K fdWi ["row", "wishes"] []) (gWi : mg "wished" = some (.ref fWi)) (GWi : FnOk P w K mg base CX0 (k + 8) fWi fdWi ["row", "wishes"] spWish) :
    FnOk P w K mg base CX0 (k + 9) f fd ["row", "wishes"] spCan := by
  refine F.ok scCan (fun vs H Q E h => ?_) (fun cdv A outer s H vs Q E hr h => ?_)
  · obtain ⟨a, b, r, ws, rfl, _⟩ := h
    rfl
  · obtain ⟨a, b, r, ws, rfl, ra, eb, hl, hw, hs, h3, q⟩ := h
    have hr8 := hr
    refine ⟨_, pss_one (ps_ret (pe_cmpR op_notN (pe_call GWi hr8 (by rfl) gWi FWi.kp bWi .nil pass0 (pa_cons (pv 0) (pa_cons (pv 1) pa_nil))) pe_non (nomark _))), ?_⟩
    refine ⟨_, rfl, _, rfl, a, b, r, ws, rfl, ra, eb, hl, hw, hs, h3, fun hN H1 s1 => ⟨rfl, ?_⟩, fun o H1 p hS s1 e1 => ⟨rfl, ?_⟩⟩
    · have := q H1 s1
      rw [hN] at this
      exact this
    · have := q H1 s1
      rw [hS] at this
      exact this
end
end K84

namespace K84
open PySem PySem.Spec PyProof.Rows L2 MG
abbrev sDeed : Stmt := topS 37
abbrev nDeed : List Str := ["_law_row", "_law_i", "_law_j", "_law_found"]
theorem scDeed : FnScope ["_law_row", "_law_i", "_law_j", "_law_found"] ["_law_row", "_law_i", "_law_j"] (defScope sDeed) := ⟨rfl, rfl, rfl, by decide +kernel, rfl, by decide +kernel, by decide +kernel⟩
abbrev sNext : Stmt := topS 38
abbrev nNext : List Str := ["_law_row", "_law_found", "_law_i", "_law_j"]
theorem scNext : FnScope ["_law_row", "_law_found", "_law_i", "_law_j"] ["_law_row"] (defScope sNext) := ⟨rfl, rfl, rfl, by decide +kernel, rfl, by decide +kernel, by decide +kernel⟩
section
variable {P : Program} {w : World} {K : PySem.W.Frag} {mg : Str → Option Value} {base : Heap}
def spDeedL : Sp := fun vs H Q _ => ∃ (a : Addr) (ns : List Int) (i j : Nat), vs = [.ref a, .int i, .int j] ∧ H a = some (.tup (ns.map V.int)) ∧ (∀ n ∈ ns, 0 ≤ n) ∧ ns.length ≤ 40 ∧ i < ns.length ∧ j < ns.length ∧
  (∀ p H', Same H H' → H p = none → H' p = some (.lst []) → ¬ MayG ns i j → Q (.ref p) H') ∧
  (∀ p t H', Same H H' → H p = none → H t = none → H' p = some (.lst [.ref t]) → H' t = some (.tup ((deed ns i j).map V.int)) → MayG ns i j → Q (.ref p) H')
theorem ok_deedL {f : Addr} {fd : FuncData} {k : Nat} (F : Fun K "_law_deed" "_law_deed" sDeed f fd) (m_list : mg "list" = none) (m_tuple : mg "tuple" = none) :
    FnOk P w K mg base CX0 (k + 1) f fd ["_law_row", "_law_i", "_law_j"] spDeedL := by
  refine F.ok scDeed (fun vs H Q E h => ?_) (fun cdv A outer s H vs Q E hr h => ?_)
  · obtain ⟨a, ns, i, j, rfl, _⟩ := h
    rfl
  · obtain ⟨a, ns, i, j, rfl, r, nn, hl, hi, hj, q0, q1⟩ := h
    refine ⟨_, pss_cons (ps_if (PW.pt (pw_or (pt_cmpR op_eq (pv 1) (pv 2) (nomark _)) (pw_or (pt_cmpR op_lt (pe_ix ix_tup (pv 0) (pv 1) (fun _ _ => rfl)) (pe_ix ix_tup (pv 0) (pv 2) (fun _ _ => rfl)) (nomark _)) (pw_or1 (pt_cmpR op_eq (pe_ix ix_tup (pv 0) (pv 2) (fun _ _ => rfl)) pe_int (nomark _)))))) (pss_one (ps_ret (pe_lst pa_nil))) pss_nil)
      (pss_cons (ps_set (i := 3) scDeed.nd rfl (.inl rfl) (pe_callTy call_list_of (by rfl) m_list (by decide +kernel) (pa_cons (pv 0) pa_nil)))
      (pss_cons (ps_asg (pe_tup (pa_cons (pe_op op_sub (pe_ix ix_tup (pv 0) (pv 1) (fun _ _ => rfl)) (pe_ix ix_tup (pv 0) (pv 2) (fun _ _ => rfl))) (pa_cons (pe_op op_mul pe_int (pe_ix ix_tup (pv 0) (pv 2) (fun _ _ => rfl))) pa_nil))) (pg_tup rfl (pgs_cons (pg_sub (pv 3) (pv 1) set_list) (pgs_cons (pg_sub (pv 3) (pv 2) set_list) pgs_nil))))
      (pss_one (ps_ret (pe_lst (pa_cons (pe_callTy call_tuple_of (by rfl) m_tuple (by decide +kernel) (pa_cons (pv 3) pa_nil)) pa_nil)))))), ?_⟩
    have hS : SqT K H a (ns.map V.int) := SqT.of r
    refine ⟨_, rfl, _, rfl, rfl, _, rfl, ?_⟩
    rw [decI]
    by_cases hij : (i : Int) = j
    · rw [decide_eq_true hij]
      exact iteT (iteT ⟨by show 0 ≤ sizeLine; decide, fun p np => q0 p _ (same_upd np) np upd_same fun m => m.ne (by omega)⟩)
    rw [decide_eq_false hij]
    refine iteF ⟨_, rfl, _, rfl, a, _, (i : Int), .int (ns.getD i 0), rfl, rfl, hS, atI_nat (getD_at hi), _, rfl, _, rfl, a, _, (j : Int), .int (ns.getD j 0), rfl, rfl, hS, atI_nat (getD_at hj), _, _, rfl, rfl, _, rfl, ?_⟩
    by_cases hlt : ns.getD i 0 < ns.getD j 0
    · rw [decide_eq_true hlt]
      exact iteT (iteT ⟨by show 0 ≤ sizeLine; decide, fun p np => q0 p _ (same_upd np) np upd_same fun m => by have := m.ge; omega⟩)
    rw [decide_eq_false hlt]
    refine iteF ⟨_, rfl, _, rfl, a, _, (j : Int), .int (ns.getD j 0), rfl, rfl, hS, atI_nat (getD_at hj), rfl, _, rfl, ?_⟩
    rw [decI]
    by_cases hz : ns.getD j 0 = 0
    · rw [decide_eq_true hz]
      exact iteT ⟨by show 0 ≤ sizeLine; decide, fun p np => q0 p _ (same_upd np) np upd_same fun m => by have := m.pj; omega⟩
    rw [decide_eq_false hz]
    have hpj : 0 < ns.getD j 0 := by
      have := nn _ (MG.getD_mem hj)
      omega
    have m : MayG ns i j := ⟨hi, hj, fun z => hij (by rw [z]), hpj, by omega⟩
    refine iteF ⟨_, rfl, a, ns.map V.int, rfl, .inr hS, fun l nl => ?_⟩
    have s1 : Same H (upd H l (.lst (ns.map V.int))) := same_upd nl
    have e1 : upd H l (.lst (ns.map V.int)) l = some (.lst (ns.map V.int)) := upd_same
    generalize upd H l (HO.lst (ns.map V.int)) = H1 at s1 e1 ⊢
    have hS1 : SqT K H1 a (ns.map V.int) := SqT.of (s1 _ _ r)
    refine ⟨.ref a, rfl, _, rfl, a, _, (i : Int), .int (ns.getD i 0), rfl, rfl, hS1, atI_nat (getD_at hi), .ref a, rfl, _, rfl, a, _, (j : Int), .int (ns.getD j 0), rfl, rfl, hS1, atI_nat (getD_at hj), _, _, rfl, rfl,
      .ref a, rfl, _, rfl, a, _, (j : Int), .int (ns.getD j 0), rfl, rfl, hS1, atI_nat (getD_at hj), 2, _, rfl, rfl, .inl ⟨by decide, by decide⟩, by show 2 ≤ sizeLine; decide, fun tp ntp => ?_⟩
    have e1' : upd H1 tp (.tup [.int (ns.getD i 0 - ns.getD j 0), .int (2 * ns.getD j 0)]) l = some (.lst (ns.map V.int)) := same_upd ntp _ _ e1
    have s2 : Same H (upd H1 tp (.tup [.int (ns.getD i 0 - ns.getD j 0), .int (2 * ns.getD j 0)])) := s1.trans (same_upd ntp)
    refine ⟨tp, _, rfl, SqT.of upd_same, rfl, .int (ns.getD i 0 - ns.getD j 0), [.int (2 * ns.getD j 0)], rfl, _, rfl, _, rfl, l, _, (i : Int), i, rfl, rfl, e1', ixN_nat (by rw [List.length_map]; exact hi), .int (2 * ns.getD j 0), [], rfl, _, rfl, _, rfl, l, _, (j : Int), j, rfl, rfl, upd_same, ixN_nat (by rw [List.length_set, List.length_map]; exact hj), rfl, ?_⟩
    generalize upd H1 tp (HO.tup [.int (ns.getD i 0 - ns.getD j 0), .int (2 * ns.getD j 0)]) = H2 at e1' s2 ⊢
    rw [← List.map_set, ← List.map_set]
    have ed : (ns.set i (ns.getD i 0 - ns.getD j 0)).set j (2 * ns.getD j 0) = deed ns i j := rfl
    rw [ed]
    have s3 : Same H (upd (upd H2 l (.lst ((ns.set i (ns.getD i 0 - ns.getD j 0)).map V.int))) l (.lst ((deed ns i j).map V.int))) := fun c o hc => by rw [upd_ne (ne_of_none hc nl), upd_ne (ne_of_none hc nl)]; exact s2 c o hc
    have e3 : upd (upd H2 l (.lst ((ns.set i (ns.getD i 0 - ns.getD j 0)).map V.int))) l (.lst ((deed ns i j).map V.int)) l = some (.lst ((deed ns i j).map V.int)) := upd_same
    generalize upd (upd H2 l (HO.lst ((ns.set i (ns.getD i 0 - ns.getD j 0)).map V.int))) l (HO.lst ((deed ns i j).map V.int)) = H3 at s3 e3 ⊢
    refine ⟨_, rfl, l, _, rfl, .inl ⟨SqL.of e3, fun t nt => ⟨by show 1 ≤ sizeLine; decide, fun p np => ?_⟩⟩⟩
    have s4 := s3.trans (same_upd nt (o := .tup ((deed ns i j).map V.int)))
    exact q1 p t _ (s4.trans (same_upd np)) (s4.free np) (s3.free nt) upd_same (same_upd np _ _ upd_same) m
/-- rows one deed on: ts in H -/
def Nx (H : Hp) (ns : List Int) (ts : List Addr) : Prop := ∀ t ∈ ts, ∃ i j, MayG ns i j ∧ H t = some (.tup ((deed ns i j).map V.int))
theorem Nx.mono {H H' : Hp} {ns : List Int} {ts : List Addr} (h : Nx H ns ts) (s : ∀ a xs, H a = some (.tup xs) → H' a = some (.tup xs)) : Nx H' ns ts := fun t ht => by
  obtain ⟨i, j, m, e⟩ := h t ht
  exact ⟨i, j, m, s _ _ e⟩
def Nc (H : Hp) (ns : List Int) (ts : List Addr) (i j : Nat) : Prop := ∀ i' j', MayG ns i' j' → (i' < i ∨ i' = i ∧ j' < j) → ∃ t ∈ ts, H t = some (.tup ((deed ns i' j').map V.int))
theorem Nc.mono {H H' : Hp} {ns : List Int} {ts : List Addr} {i j : Nat} (h : Nc H ns ts i j) (s : ∀ a xs, H a = some (.tup xs) → H' a = some (.tup xs)) : Nc H' ns ts i j := fun i' j' m l => by
  obtain ⟨t, ht, e⟩ := h i' j' m l
  exact ⟨t, ht, s _ _ e⟩
def spNext : Sp := fun vs H Q _ => ∃ (a : Addr) (ns : List Int), vs = [.ref a] ∧ H a = some (.tup (ns.map V.int)) ∧ (∀ n ∈ ns, 0 ≤ n) ∧ ns.length ≤ 30 ∧
  ∀ p ts H', Same H H' → H p = none → H' p = some (.lst (ts.map V.ref)) → ts.length ≤ 900 → Nx H' ns ts → Nc H' ns ts ns.length 0 → Q (.ref p) H'
theorem ok_next {f fJ : Addr} {fd fdJ : FuncData} {k : Nat} (F : Fun K "_law_next" "_law_next" sNext f fd)
    (FJ : Fun K "_law_deed" "_law_deed" sDeed fJ fdJ) (bJ : Binds K fdJ ["_law_row", "_law_i", "_law_j"] []) (gJ : mg "_law_deed" = some (.ref fJ)) (GJ : FnOk P w K mg base CX0 (k + 1) fJ fdJ ["_law_row", "_law_i", "_law_j"] spDeedL)
    (m_len : mg "len" = none) (m_range : mg "range" = none) : FnOk P w K mg base CX0 (k + 2) f fd ["_law_row"] spNext := by
  refine F.ok scNext (fun vs H Q E h => ?_) (fun cdv A outer s H vs Q E hr h => ?_)
  · obtain ⟨a, ns, rfl, _⟩ := h
    rfl
  · obtain ⟨a, ns, rfl, r, nn, hl, q⟩ := h
    have hr1 := hr
    refine ⟨_, pss_cons (ps_set (i := 1) scNext.nd rfl (.inl rfl) (pe_lst pa_nil))
      (pss_cons (ps_for PassesOwn.never rfl (pi_range1 (by rfl) m_range (pa_cons (pe_callB call_len_seq (by rfl) m_len PySem.boot_len (pa_cons (pv 0) pa_nil)) pa_nil)) (pg_name (i := 2) scNext.nd rfl (.inl rfl)) (pss_one (ps_for PassesOwn.never rfl (pi_range1 (by rfl) m_range (pa_cons (pe_callB call_len_seq (by rfl) m_len PySem.boot_len (pa_cons (pv 0) pa_nil)) pa_nil)) (pg_name (i := 3) scNext.nd rfl (.inl rfl)) (pss_one (ps_expr (pe_bm PySem.F.plainAttrs_list PySem.F.slot_list_extend PySem.F.type_list_extend mt_extend (pv 1) (pa_cons (pe_call GJ hr1 (by rfl) gJ FJ.kp bJ .nil pass0 (pa_cons (pv 0) (pa_cons (pv 2) (pa_cons (pv 3) pa_nil)))) pa_nil)))))))
      (pss_one (ps_ret (pv 1)))), ?_⟩
    refine ⟨by show 0 ≤ sizeLine; decide, fun fo nfo => ?_⟩
    have s1 : Same H (upd H fo (.lst [])) := same_upd nfo
    have e1 : upd H fo (.lst []) fo = some (.lst []) := upd_same
    generalize upd H fo (HO.lst []) = H1 at s1 e1 ⊢
    refine ⟨_, rfl, a, _, rfl, .inr (SqT.of (s1 _ _ r)), _, rfl, by omega, by rw [List.length_map]; omega, ?_⟩
    refine for_range (lo := 0) (n := ((ns.map V.int).length : Int).toNat) (fun i σ G => ∃ (y2 y3 : Option V) (ts : List Addr), σ = [some (.ref a), some (.ref fo), y2, y3] ∧ Same H G ∧ G fo = some (.lst (ts.map V.ref)) ∧ ts.length ≤ i * ns.length ∧ Nx G ns ts ∧ Nc G ns ts i 0) ?_ ?_ ?_
    · exact ⟨_, _, [], rfl, s1, e1, Nat.zero_le _, fun t ht => absurd ht List.not_mem_nil, fun i' j' m l => by omega⟩
    · rintro i σ G hi ⟨y2, y3, ts, rfl, sm, ef, tl, nx, nc⟩
      have hi' : i < ns.length := by rw [List.length_map] at hi; omega
      refine ⟨_, rfl, a, _, rfl, .inr (SqT.of (sm _ _ r)), _, rfl, by omega, by rw [List.length_map]; omega, ?_⟩
      refine for_range (lo := 0) (n := ((ns.map V.int).length : Int).toNat) (fun j σ G => ∃ (y3 : Option V) (ts : List Addr), σ = [some (.ref a), some (.ref fo), some (.int (0 + (i : Int))), y3] ∧ Same H G ∧ G fo = some (.lst (ts.map V.ref)) ∧ ts.length ≤ i * ns.length + j ∧ Nx G ns ts ∧ Nc G ns ts i j) ?_ ?_ ?_
      · exact ⟨_, ts, rfl, sm, ef, tl, nx, nc⟩
      · rintro j σ G hj ⟨y3, ts, rfl, sm, ef, tl, nx, nc⟩
        have hj' : j < ns.length := by rw [List.length_map] at hj; omega
        have tl2 : ts.length + 1 ≤ 900 := by
          have h1 : (i + 1) * ns.length ≤ 30 * 30 := Nat.mul_le_mul (by omega) hl
          rw [Nat.add_mul, Nat.one_mul] at h1
          omega
        refine ⟨_, rfl, .inl ⟨rfl, _, SqL.of ef⟩, _, rfl, _, rfl, _, rfl, a, ns, i, j, by rw [Int.zero_add, Int.zero_add]; rfl, sm _ _ r, nn, by omega, hi', hj', fun p H' s' np ep nm => ?_, fun p t H' s' np nt ep et m => ?_⟩
        · refine ⟨fo, p, _, _, rfl, rfl, s' _ _ ef, ep, by rw [List.length_map]; show ts.length + 0 ≤ sizeLine; rw [sizeLine_eq]; omega, ?_⟩
          refine ⟨_, ts, rfl, fun c o hc => by rw [upd_ne (ne_of_none hc nfo)]; exact s' _ _ (sm c o hc), by rw [upd_same, List.append_nil], by omega, (nx.mono fun c xs hc => ?_), fun i' j' m l => ?_⟩
          · rw [upd_ne (fun z => by rw [z, ef] at hc; cases hc)]
            exact s' _ _ hc
          · have l' : i' < i ∨ i' = i ∧ j' < j := by
              rcases l with l | ⟨l1, l2⟩
              · exact .inl l
              · by_cases hjj : j' = j
                · subst l1 hjj; exact absurd m nm
                · exact .inr ⟨l1, by omega⟩
            obtain ⟨t, ht, e⟩ := nc i' j' m l'
            refine ⟨t, ht, ?_⟩
            rw [upd_ne (fun z => by rw [z, ef] at e; cases e)]
            exact s' _ _ e
        · refine ⟨fo, p, _, _, rfl, rfl, s' _ _ ef, ep, by rw [List.length_map]; show ts.length + 1 ≤ sizeLine; rw [sizeLine_eq]; omega, ?_⟩
          refine ⟨_, ts ++ [t], rfl, fun c o hc => by rw [upd_ne (ne_of_none hc nfo)]; exact s' _ _ (sm c o hc), by rw [upd_same, List.map_append]; rfl, by rw [List.length_append]; show ts.length + 1 ≤ _; omega, fun u hu => ?_, fun i' j' m' l => ?_⟩
          · rcases List.mem_append.mp hu with hu | hu
            · obtain ⟨i1, j1, m1, e1⟩ := nx u hu
              refine ⟨i1, j1, m1, ?_⟩
              rw [upd_ne (fun z => by rw [z, ef] at e1; cases e1)]
              exact s' _ _ e1
            · rw [List.mem_singleton.mp hu]
              refine ⟨i, j, m, ?_⟩
              rw [upd_ne (fun z => by rw [z, s' _ _ ef] at et; cases et)]
              exact et
          · by_cases hij : i' = i ∧ j' = j
            · obtain ⟨rfl, rfl⟩ := hij
              refine ⟨t, List.mem_append_right _ List.mem_cons_self, ?_⟩
              rw [upd_ne (fun z => by rw [z, s' _ _ ef] at et; cases et)]
              exact et
            · obtain ⟨u, hu, e1⟩ := nc i' j' m' (by omega)
              refine ⟨u, List.mem_append_left _ hu, ?_⟩
              rw [upd_ne (fun z => by rw [z, ef] at e1; cases e1)]
              exact s' _ _ e1
      · rintro σ G ⟨y3, ts, rfl, sm, ef, tl, nx, nc⟩
        rw [show ((ns.map V.int).length : Int).toNat = ns.length by rw [List.length_map]; exact Int.toNat_natCast _] at tl
        exact ⟨_, _, ts, rfl, sm, ef, by rw [Nat.add_mul, Nat.one_mul]; exact tl, nx, fun i' j' m l => nc i' j' m (by have := m.hj; rw [show ((ns.map V.int).length : Int).toNat = ns.length by rw [List.length_map]; exact Int.toNat_natCast _]; omega)⟩
    · rintro σ G ⟨y2, y3, ts, rfl, sm, ef, tl, nx, nc⟩
      rw [show ((ns.map V.int).length : Int).toNat = ns.length by rw [List.length_map]; exact Int.toNat_natCast _] at tl
      exact ⟨_, rfl, q fo ts G sm nfo ef (Nat.le_trans tl (Nat.mul_le_mul hl hl)) nx (by rw [show ((ns.map V.int).length : Int).toNat = ns.length by rw [List.length_map]; exact Int.toNat_natCast _] at nc; exact nc)⟩
end
end K84

/-! MG: what is due of wishes where two places at least are free -/
namespace MG
open PySem PySem.Spec PyProof.Rows L2
def posL (l : List Int) : List Int := l.filter fun n => decide (0 < n)
def isPow (n : Nat) : Bool := decide (n / 2 ^ v2 n = 1)
/-- in units -/
def dueU (s : List Int) (l : Int) (od : Nat) : Bool :=
  if oddc s = 0 ∧ l % 2 = 0 ∧ (0 < l ∨ isPow (gl s) = true) then true
  else if l = 0 then isPow (gl s) && (decide (0 < oddc s) && decide (oddc s ≤ od)) && decide (oddc s < s.length)
  else if l % 2 = 1 then decide (oddc s + 1 ≤ od) && (decide (1 < l) || decide (oddc s < s.length))
  else decide (0 < oddc s) && decide (oddc s ≤ od)
theorem isPow_iff {n : Nat} (h : 0 < n) : isPow n = true ↔ ∃ k, n = 2 ^ k := by
  unfold isPow
  rw [decide_eq_true_eq]
  constructor
  · intro e
    have := v2_split h
    rw [e, Nat.mul_one] at this
    exact ⟨_, this⟩
  · rintro ⟨k, rfl⟩
    have : v2 (2 ^ k) = k := v2_unique (m := 1) (by rw [Nat.mul_one]) rfl
    rw [this, Nat.div_self (Nat.two_pow_pos k)]
theorem cl_unit {r o : List Int} (nr : ∀ n ∈ r, 0 ≤ n) (no : ∀ n ∈ o, 0 ≤ n) (hr : 0 < gl r) (ho : 0 < gl o) (hs : o.sum = r.sum) (l : r.length = o.length) (hz : ∀ p, r.getD p 0 = 0 → o.getD p 0 = 0) :
    Cl r o ↔ (∃ k, gl o = gl r * 2 ^ k) ∧ (gl o = gl r → (o.map (oddF (v2 (gl r)))).sum ≤ (r.map (oddF (v2 (gl r)))).sum ∧ (o.map (oddF (v2 (gl r)))).sum < (o.map posF).sum) := by
  have hod := od_sum nr
  have hoo := od_sum no
  have hp := hold_pos o
  have hle : (o.map (oddF (v2 (gl r)))).sum ≤ (o.map posF).sum := sum_le_of (l := o) fun n hn => oddF_le _ (no n hn)
  constructor
  · intro c
    constructor
    · have h1 := c.ms
      rw [ms_nat, ms_nat] at h1
      have e : gl o / 2 ^ v2 (gl o) = gl r / 2 ^ v2 (gl r) := by omega
      refine ⟨v2 (gl o) - v2 (gl r), ?_⟩
      have h2 := v2_split ho
      have h3 := v2_split hr
      have h4 : 2 ^ v2 (gl o) = 2 ^ v2 (gl r) * 2 ^ (v2 (gl o) - v2 (gl r)) := by rw [← Nat.pow_add]; congr 1; have := c.tw; omega
      generalize v2 (gl o) - v2 (gl r) = d at h4
      rw [e] at h2
      generalize gl r / 2 ^ v2 (gl r) = m at h2 h3
      generalize 2 ^ v2 (gl o) = x at h2 h4
      generalize 2 ^ v2 (gl r) = y at h3 h4
      rw [h2, h3, h4, Nat.mul_assoc, Nat.mul_assoc, Nat.mul_comm m]
    · intro e
      have e2 : v2 (gl o) = v2 (gl r) := by rw [e]
      have a := c.od e2
      have b := c.dbl e2
      rw [e2] at hoo
      constructor <;> omega
  · rintro ⟨⟨k, hk⟩, h2⟩
    have hv : v2 (gl o) = v2 (gl r) + k := by
      rw [hk, v2_mul hr (Nat.two_pow_pos k)]
      congr 1
      exact v2_unique (m := 1) (by rw [Nat.mul_one]) rfl
    have hm : ms o = ms r := by
      rw [ms_nat, ms_nat]
      congr 1
      rw [hk, odd_mul hr (Nat.two_pow_pos k)]
      have : v2 (2 ^ k) = k := v2_unique (m := 1) (by rw [Nat.mul_one]) rfl
      rw [this, Nat.div_self (Nat.two_pow_pos k), Nat.mul_one]
    have same : v2 (gl o) = v2 (gl r) → gl o = gl r := fun e => by
      have : k = 0 := by omega
      rw [hk, this, Nat.pow_zero, Nat.mul_one]
    refine ⟨hs, hfn_of hz, hm, by omega, fun e => ?_, fun e => ?_⟩
    · have := (h2 (same e)).1
      rw [e] at hoo
      omega
    · have := (h2 (same e)).2
      rw [e] at hoo
      omega
theorem posL_sum {f : Int → Int} (f0 : f 0 = 0) : ∀ {l : List Int}, (∀ n ∈ l, 0 ≤ n) → ((posL l).map f).sum = (l.map f).sum
  | [], _ => rfl
  | x :: l, h => by
    have ih := posL_sum f0 (l := l) fun n hn => h n (List.mem_cons_of_mem _ hn)
    unfold posL at ih ⊢
    by_cases hx : 0 < x
    · rw [List.filter_cons_of_pos (by simpa using hx), List.map_cons, List.sum_cons, List.map_cons, List.sum_cons, ih]
    · have : x = 0 := by have := h x List.mem_cons_self; omega
      subst this
      rw [List.filter_cons_of_neg (by decide), List.map_cons, List.sum_cons, f0, ih]; omega
theorem oddF_unit {u : Nat} (hu : 0 < u) (n : Int) : oddF (v2 u) ((u : Int) * n) = if n % 2 = 1 then 1 else 0 := by
  have hs := v2_split hu
  have hm := odd_rest hu
  generalize u / 2 ^ v2 u = m at hs hm
  generalize ht : v2 u = t at hs
  have e : ((u : Int) * n) % 2 ^ (t + 1) = 0 ↔ n % 2 = 0 := by
    have hp : (0 : Int) < 2 ^ t := Int.pow_pos (by decide)
    have eu : (u : Int) = 2 ^ t * (m : Int) := by
      rw [hs, Int.natCast_mul, Int.natCast_pow]; rfl
    constructor
    · intro h
      obtain ⟨c, hc⟩ := Int.dvd_of_emod_eq_zero h
      rw [eu, Int.pow_succ, Int.mul_assoc, Int.mul_assoc] at hc
      have h2 : (m : Int) * n = 2 * c := Int.eq_of_mul_eq_mul_left (by omega) hc
      have h3 : ((m : Int) * n) % 2 = 0 := by rw [h2]; omega
      rw [Int.mul_emod] at h3
      have hm' : (m : Int) % 2 = 1 := by omega
      rw [hm'] at h3
      omega
    · intro h
      obtain ⟨c, hc⟩ := Int.dvd_of_emod_eq_zero h
      refine Int.emod_eq_zero_of_dvd ⟨(m : Int) * c, ?_⟩
      rw [eu, hc, Int.pow_succ]
      grind
  unfold oddF
  by_cases h : n % 2 = 1
  · rw [if_pos h, if_neg (fun z => by have := e.mp z; omega)]
  · rw [if_neg h, if_pos (e.mpr (by omega))]
theorem oddc_unit {u : Nat} (hu : 0 < u) : ∀ {l : List Int}, (∀ n ∈ l, (u : Int) ∣ n) → ((l.map (oddF (v2 u))).sum = ((oddc (l.map fun n => n / (u : Int)) : Nat) : Int))
  | [], _ => rfl
  | x :: l, h => by
    have ih := oddc_unit hu (l := l) fun n hn => h n (List.mem_cons_of_mem _ hn)
    obtain ⟨c, hc⟩ := h x List.mem_cons_self
    have hd : x / (u : Int) = c := by rw [hc, Int.mul_ediv_cancel_left _ (by omega)]
    unfold oddc at ih ⊢
    rw [List.map_cons, List.sum_cons, ih, List.map_cons, hd, hc, oddF_unit hu]
    by_cases h1 : c % 2 = 1
    · rw [if_pos h1, List.filter_cons_of_pos (by simpa using h1), List.length_cons]; omega
    · rw [if_neg h1, List.filter_cons_of_neg (by simpa using h1)]; omega
theorem gl_unit {u : Nat} (hu : 0 < u) {l : List Int} (nl : ∀ n ∈ l, 0 ≤ n) (h : ∀ n ∈ l, (u : Int) ∣ n) : gl l = u * gl (l.map fun n => n / (u : Int)) := by
  have e : l = sc (u : Int) (l.map fun n => n / (u : Int)) := by
    unfold sc
    rw [List.map_map]
    conv => lhs; rw [← List.map_id l]
    refine List.map_congr_left fun n hn => ?_
    show n = (u : Int) * (n / (u : Int))
    rw [Int.mul_ediv_cancel' (h n hn)]
  conv => lhs; rw [e]
  rw [sc_gl (by omega) fun n hn => by
    obtain ⟨m, hm, rfl⟩ := List.mem_map.mp hn
    exact Int.ediv_nonneg (nl m hm) (by omega), Int.toNat_natCast]
theorem posL_gl (l : List Int) : gl (posL l) = gl l := gl_filter l
theorem hfn_iff {r o : List Int} (l : r.length = o.length) (no : ∀ n ∈ o, 0 ≤ n) : hfn r o = false ↔ ∀ p, r.getD p 0 = 0 → o.getD p 0 = 0 := ⟨fun h p => hfn_pos l no h p, hfn_of⟩
theorem set_at {l : List Int} {p q : Nat} {x : Int} (h : p ≠ q) : (l.set p x).getD q 0 = l.getD q 0 := by
  rw [List.getD_eq_getElem?_getD, List.getElem?_set_ne h, ← List.getD_eq_getElem?_getD]
theorem set_own {l : List Int} {p : Nat} {x : Int} (h : p < l.length) : (l.set p x).getD p 0 = x := by
  rw [List.getD_eq_getElem?_getD, List.getElem?_set_self h]; rfl
theorem due_wish {r : List Int} {ws : List (Option Int)} (l : ws.length = r.length) (nr : ∀ n ∈ r, 0 ≤ n) (nw : ∀ v, some v ∈ ws → 0 ≤ v) (hS : 0 < r.sum) (h2 : 2 ≤ (free r ws ws.length).length) (hne : ¬ Meets ws r) :
    (wishF r ws).isSome = (if hfn r (wA ws) = true then false
      else if r.sum - (wA ws).sum < 0 ∨ (r.sum - (wA ws).sum) % (gl r : Int) ≠ 0 ∨ (∃ n ∈ posL (wA ws), n % (gl r : Int) ≠ 0) then false
      else dueU ((posL (wA ws)).map fun n => n / (gl r : Int)) ((r.sum - (wA ws).sum) / (gl r : Int)) (od r)) := by
  have hr := pos_gl nr hS
  have nA := wA_nn nw
  have lA : r.length = (wA ws).length := by rw [wA_len, l]
  generalize hleft : r.sum - (wA ws).sum = left
  have frne : free r ws ws.length ≠ [] := fun z => by rw [z] at h2; simp at h2
  by_cases hneg : left < 0
  · have : fillF r ws = none := by unfold fillF; rw [if_pos (.inl (by omega))]
    have e : wishF r ws = none := by unfold wishF; rw [this]
    rw [e]
    split
    · rfl
    · rw [if_pos (.inl hneg)]; rfl
  obtain ⟨o, ho⟩ : ∃ o, fillF r ws = some o := by
    unfold fillF
    rw [if_neg (show ¬ _ from fun z => z.elim (by omega) fun z => frne z.2), if_neg frne]
    split <;> exact ⟨_, rfl⟩
  have F := fill_form ho
  have no := F.nn nw
  have hsum := F.sum
  have lo : r.length = o.length := by rw [F.meets.1, l]
  have hro : r ≠ o := fun z => hne (z ▸ F.meets)
  have ew : (wishF r ws).isSome = true ↔ Cl r o := by
    unfold wishF
    rw [ho]
    show (if brkT r o = [] then some o else none).isSome = true ↔ _
    have eb : brkT r o = [] ↔ Cl r o := by
      unfold brkT
      rw [if_neg hro, if_neg (fun z => z lo)]
      exact cl_iff
    by_cases hb : brkT r o = []
    · rw [if_pos hb]; exact ⟨fun _ => eb.mp hb, fun _ => rfl⟩
    · rw [if_neg hb]; exact ⟨fun z => (by cases z), fun z => absurd (eb.mpr z) hb⟩
  have no_of : ¬ Cl r o → (wishF r ws).isSome = false := fun z => by
    cases h : (wishF r ws).isSome with
    | false => rfl
    | true => exact absurd (ew.mp h) z
  -- at a place where nobody has anything the filled row is the wish
  have atz : ∀ p, r.getD p 0 = 0 → o.getD p 0 = (wA ws).getD p 0 := fun p hp => by
    cases F with
    | none => rfl
    | one q _ h0 => exact set_at fun z => by rw [z] at h0; omega
    | two q q2 _ _ h0 h02 => rw [set_at fun z => by rw [z] at h0; omega, set_at fun z => by rw [z] at h02; omega]
  by_cases hno : hfn r (wA ws) = true
  · rw [if_pos hno]
    refine no_of fun c => ?_
    have h1 := (hfn_iff lo no).mp c.hf
    have h3 : hfn r (wA ws) = false := (hfn_iff lA nA).mpr fun p hp => by rw [← atz p hp]; exact h1 p hp
    rw [h3] at hno; cases hno
  rw [if_neg hno]
  have hno' : hfn r (wA ws) = false := by cases h : hfn r (wA ws) with | false => rfl | true => exact absurd h hno
  have hzA := (hfn_iff lA nA).mp hno'
  have hz : ∀ p, r.getD p 0 = 0 → o.getD p 0 = 0 := fun p hp => by rw [atz p hp]; exact hzA p hp
  have hgo := pos_gl no (by omega)
  have key := cl_unit nr no hr hgo hsum lo hz
  -- the parts of the filled row
  have parts : (∀ n ∈ o, (gl r : Int) ∣ n) → (∀ n ∈ wA ws, (gl r : Int) ∣ n) ∧ (gl r : Int) ∣ left := fun dv => by
    have dA : ∀ n ∈ wA ws, (gl r : Int) ∣ n := wA_dvd F.meets dv
    refine ⟨dA, ?_⟩
    have h1 : (gl r : Int) ∣ o.sum := sum_dvd dv
    have h2 : (gl r : Int) ∣ (wA ws).sum := sum_dvd dA
    rw [← hleft, ← hsum]
    exact Int.dvd_sub h1 h2
  by_cases hdv : left < 0 ∨ left % (gl r : Int) ≠ 0 ∨ ∃ n ∈ posL (wA ws), n % (gl r : Int) ≠ 0
  · rw [if_pos hdv]
    refine no_of fun c => ?_
    obtain ⟨⟨k, hk⟩, _⟩ := key.mp c
    have dv : ∀ n ∈ o, (gl r : Int) ∣ n := fun n hn => Int.dvd_trans (Int.natCast_dvd_natCast.mpr ⟨2 ^ k, hk⟩) (gl_dvdI (no n hn) hn)
    obtain ⟨dA, dl⟩ := parts dv
    rcases hdv with h | h | ⟨n, hn, h⟩
    · exact hneg h
    · exact h (Int.emod_eq_zero_of_dvd dl)
    · exact h (Int.emod_eq_zero_of_dvd (dA n (List.mem_filter.mp hn).1))
  rw [if_neg hdv]
  have dl : (gl r : Int) ∣ left := Int.dvd_of_emod_eq_zero (Decidable.of_not_not fun z => hdv (.inr (.inl z)))
  have dA : ∀ n ∈ wA ws, (gl r : Int) ∣ n := fun n hn => by
    by_cases hp : 0 < n
    · exact Int.dvd_of_emod_eq_zero (Decidable.of_not_not fun z => hdv (.inr (.inr ⟨n, List.mem_filter.mpr ⟨hn, decide_eq_true hp⟩, z⟩)))
    · have : n = 0 := by have := nA n hn; omega
      rw [this]; exact ⟨0, by simp⟩
  have dP : ∀ n ∈ posL (wA ws), (gl r : Int) ∣ n := fun n hn => dA n (List.mem_filter.mp hn).1
  have nP : ∀ n ∈ posL (wA ws), 0 ≤ n := fun n hn => nA n (List.mem_filter.mp hn).1
  have hodr := od_sum nr
  generalize hs : (posL (wA ws)).map (fun n => n / (gl r : Int)) = s
  have eodd : ((wA ws).map (oddF (v2 (gl r)))).sum = ((oddc s : Nat) : Int) := by
    rw [← posL_sum (oddF_zero _) nA, oddc_unit hr dP, hs]
  have ecnt : ((wA ws).map posF).sum = ((s.length : Nat) : Int) := by
    rw [← hs, List.length_map, ← pos_sum]; rfl
  have egl : gl (wA ws) = gl r * gl s := by rw [← posL_gl, gl_unit hr nP dP, hs]
  obtain ⟨c, hc⟩ := dl
  have ec : left / (gl r : Int) = c := by rw [hc, Int.mul_ediv_cancel_left _ (by omega)]
  rw [ec]
  have c0 : 0 ≤ c := Int.not_lt.mp fun z => by
    have := Int.mul_lt_mul_of_pos_left z (show (0 : Int) < (gl r : Int) by omega)
    omega
  have olc : oddF (v2 (gl r)) left = if c % 2 = 1 then 1 else 0 := by rw [hc, oddF_unit hr]
  have hoddn : 0 ≤ (r.map (oddF (v2 (gl r)))).sum := by omega
  -- where twice the unit is among them
  have even : 2 * (gl r : Int) ∈ o → (∀ n ∈ o, (gl r : Int) ∣ n) → (Cl r o ↔ (o.map (oddF (v2 (gl r)))).sum ≤ (r.map (oddF (v2 (gl r)))).sum) := fun m2 dv => by
    have hb := gl_between no dv m2 hr
    rw [key]
    have hlt : (o.map (oddF (v2 (gl r)))).sum < (o.map posF).sum := by
      refine sum_lt_of (fun n hn => oddF_le _ (no n hn)) ⟨_, m2, ?_⟩
      rw [oddF_two rfl]; unfold posF; rw [if_pos (by omega)]; decide
    constructor
    · rintro ⟨_, h⟩
      rcases hb with e | e
      · exact (h e).1
      · have : (o.map (oddF (v2 (gl r)))).sum = 0 := sum_zero fun x hx => by
          obtain ⟨n, hn, rfl⟩ := List.mem_map.mp hx
          refine oddF_dvd (pow_dvdI (g := gl o) ?_ (gl_dvdI (no n hn) hn))
          rw [e, Nat.pow_succ, Nat.mul_comm]
          exact Nat.mul_dvd_mul_left 2 (pow_v2_dvd _)
        omega
    · intro h
      refine ⟨?_, fun _ => ⟨h, hlt⟩⟩
      rcases hb with e | e
      · exact ⟨0, by rw [e, Nat.pow_zero, Nat.mul_one]⟩
      · exact ⟨1, by rw [e, Nat.pow_one, Nat.mul_comm]⟩
  have dvset : ∀ {l : List Int} {p : Nat} {x : Int}, (∀ n ∈ l, (gl r : Int) ∣ n) → (gl r : Int) ∣ x → ∀ n ∈ l.set p x, (gl r : Int) ∣ n := fun hl hx n hn => by
    rcases List.mem_or_eq_of_mem_set hn with z | z
    · exact hl n z
    · rw [z]; exact hx
  have fin : ∀ b : Bool, (Cl r o ↔ b = true) → (wishF r ws).isSome = b := fun b h => bool_iff (ew.trans h)
  refine fin _ ?_
  have duE : 0 < c → c % 2 = 0 → (dueU s c (od r) = true ↔ oddc s ≤ od r) := fun h1 h2 => by
    unfold dueU
    by_cases h3 : oddc s = 0
    · rw [if_pos ⟨h3, h2, .inl h1⟩]; exact ⟨fun _ => by omega, fun _ => rfl⟩
    · rw [if_neg (fun z => h3 z.1), if_neg (by omega), if_neg (by omega), Bool.and_eq_true, decide_eq_true_eq, decide_eq_true_eq]
      exact ⟨fun z => z.2, fun z => ⟨by omega, z⟩⟩
  cases F with
  | none h _ => exact absurd h frne
  | two p q hp hq hp0 hq0 hpq hl2 =>
    rw [hleft] at hl2 even ⊢
    have hq' : q < (wA ws).length := by rw [wA_len]; exact (List.getElem?_eq_some_iff.mp hq).1
    have hsm : ((((wA ws).set q (2 * (gl r : Int))).set p (left - 2 * (gl r : Int))).map (oddF (v2 (gl r)))).sum = ((oddc s : Nat) : Int) + (if c % 2 = 1 then 1 else 0) := by
      rw [sum_setF _ (y := 0) (by rw [List.getElem?_set_ne hpq.symm]; exact wA_none hp), sum_setF _ (wA_none hq), oddF_zero, oddF_two rfl, oddF_sub rfl, eodd, olc]
      omega
    rw [even (List.mem_of_getElem? (i := q) (by rw [List.getElem?_set_ne hpq, List.getElem?_set_self hq'])) (dvset (dvset dA ⟨2, by rw [Int.mul_comm]⟩) (Int.dvd_sub ⟨c, hc⟩ ⟨2, by rw [Int.mul_comm]⟩)), hsm, ← hodr]
    have c3 : 2 < c := Int.lt_of_not_ge fun z => by
      have := Int.mul_le_mul_of_nonneg_left z (show (0 : Int) ≤ (gl r : Int) by omega)
      omega
    by_cases h1 : c % 2 = 1
    · unfold dueU
      rw [if_pos h1, if_neg (fun z => by omega), if_neg (by omega), if_pos h1, Bool.and_eq_true, Bool.or_eq_true, decide_eq_true_eq, decide_eq_true_eq]
      exact ⟨fun z => ⟨by omega, .inl (by omega)⟩, fun z => by omega⟩
    · rw [if_neg h1, duE (by omega) (by omega)]
      omega
  | one p hp h0 hl0 hh hk =>
    rw [hleft] at hk even key no hgo lo ⊢
    have hp' : p < (wA ws).length := by rw [wA_len]; exact (List.getElem?_eq_some_iff.mp hp).1
    have hle : left ≤ 2 * (gl r : Int) := hk.resolve_left (by omega)
    have c2 : c ≤ 2 := Int.le_of_mul_le_mul_left (a := (gl r : Int)) (by omega) (by omega)
    have hmem : left ∈ (wA ws).set p left := List.mem_of_getElem? (List.getElem?_set_self hp')
    have dv : ∀ n ∈ (wA ws).set p left, (gl r : Int) ∣ n := dvset dA ⟨c, hc⟩
    have hsm : (((wA ws).set p left).map (oddF (v2 (gl r)))).sum = ((oddc s : Nat) : Int) + (if c % 2 = 1 then 1 else 0) := by
      rw [sum_setF _ (wA_none hp), oddF_zero, eodd, olc]; omega
    have hcase : c = 2 ∨ c = 1 ∨ c = 0 := by omega
    rcases hcase with rfl | rfl | rfl
    · rw [even (by rw [show 2 * (gl r : Int) = left by omega]; exact hmem) dv, hsm, ← hodr, duE (by decide) (by decide), if_neg (by decide)]
      omega
    · have eu : left = (gl r : Int) := by omega
      have hg : gl ((wA ws).set p left) = gl r := by
        refine Nat.dvd_antisymm ?_ (all_dvd no dv)
        have h5 := gl_dvd hmem
        have h6 : left.toNat = gl r := by rw [eu]; exact Int.toNat_natCast _
        rw [h6] at h5; exact h5
      have hps : (((wA ws).set p left).map posF).sum = ((s.length : Nat) : Int) + 1 := by
        rw [sum_setF posF (wA_none hp), ecnt, eu]
        have h1 : posF (gl r : Int) = 1 := by unfold posF; rw [if_pos (by omega)]
        have h2 : posF 0 = 0 := rfl
        omega
      rw [if_pos (show (1 : Int) % 2 = 1 by decide)] at hsm
      have ed : dueU s 1 (od r) = (decide (oddc s + 1 ≤ od r) && (decide ((1 : Int) < 1) || decide (oddc s < s.length))) := by
        unfold dueU
        rw [if_neg (show ¬ _ from fun z => absurd z.2.1 (by decide)), if_neg (show ¬ (1 : Int) = 0 by decide), if_pos (show (1 : Int) % 2 = 1 by decide)]
      rw [key, hsm, hps, ← hodr, ed, Bool.and_eq_true, Bool.or_eq_true, decide_eq_true_eq, decide_eq_true_eq, decide_eq_true_eq]
      constructor
      · rintro ⟨_, h⟩
        have := h hg
        exact ⟨by omega, .inr (by omega)⟩
      · rintro ⟨h1, h3⟩
        exact ⟨⟨0, by rw [hg, Nat.pow_zero, Nat.mul_one]⟩, fun _ => ⟨by omega, by omega⟩⟩
    · have e0 : left = 0 := by omega
      have eA : (wA ws).set p left = wA ws := by
        refine ext0 (List.length_set ..) fun q _ => ?_
        by_cases hqp : p = q
        · subst hqp
          rw [set_own hp', e0, List.getD_eq_getElem?_getD, wA_none hp]; rfl
        · exact set_at hqp
      rw [eA] at key hgo
      have hgs : 0 < gl s := by
        rcases Nat.eq_zero_or_pos (gl s) with z | z
        · rw [egl, z, Nat.mul_zero] at hgo; omega
        · exact z
      have hpow : (∃ k, gl (wA ws) = gl r * 2 ^ k) ↔ isPow (gl s) = true := by
        rw [isPow_iff hgs]
        constructor
        · rintro ⟨k, hk⟩
          rw [egl] at hk
          exact ⟨k, Nat.eq_of_mul_eq_mul_left hr hk⟩
        · rintro ⟨k, hk⟩
          exact ⟨k, by rw [egl, hk]⟩
      -- without an odd one the unit is more
      have hodd0 : oddc s = 0 → gl (wA ws) ≠ gl r := fun h e => by
        rw [egl] at e
        have e1 : gl s = 1 := Nat.eq_of_mul_eq_mul_left hr (by rw [e, Nat.mul_one])
        have : 2 ∣ gl s := gl_all fun n hn => by
          unfold oddc at h
          have h3 := List.filter_eq_nil_iff.mp (List.eq_nil_of_length_eq_zero h) n hn
          rw [decide_eq_true_eq] at h3
          have h4 : 0 ≤ n := by
            rw [← hs] at hn
            obtain ⟨m, hm, rfl⟩ := List.mem_map.mp hn
            exact Int.ediv_nonneg (nP m hm) (by omega)
          omega
        omega
      have hodd1 : 0 < oddc s → isPow (gl s) = true → gl (wA ws) = gl r := fun h hp => by
        obtain ⟨k, hk⟩ := (isPow_iff hgs).mp hp
        rcases Nat.eq_zero_or_pos k with z | z
        · rw [egl, hk, z, Nat.pow_zero, Nat.mul_one]
        · exfalso
          have h2d : 2 ∣ gl s := by rw [hk]; exact ⟨2 ^ (k - 1), by rw [← Nat.pow_succ']; congr 1; omega⟩
          unfold oddc at h
          obtain ⟨n, hn⟩ := List.exists_mem_of_length_pos h
          obtain ⟨hn1, hn2⟩ := List.mem_filter.mp hn
          have hn2' := of_decide_eq_true hn2
          have := Nat.dvd_trans h2d (gl_dvd hn1)
          have h4 : 0 ≤ n := by
            rw [← hs] at hn1
            obtain ⟨m, hm, rfl⟩ := List.mem_map.mp hn1
            exact Int.ediv_nonneg (nP m hm) (by omega)
          omega
      rw [eA, key, hpow]
      rw [eA, if_neg (show ¬ (0 : Int) % 2 = 1 by decide)] at hsm
      rw [hsm, ecnt, ← hodr]
      unfold dueU
      by_cases ho0 : oddc s = 0
      · by_cases hpw : isPow (gl s) = true
        · rw [if_pos ⟨ho0, by decide, .inr hpw⟩]
          exact ⟨fun _ => rfl, fun _ => ⟨hpw, fun z => absurd z (hodd0 ho0)⟩⟩
        · rw [if_neg (fun z => z.2.2.elim (fun y => absurd y (by decide)) hpw), if_pos rfl]
          have : isPow (gl s) = false := by cases h : isPow (gl s) with | false => rfl | true => exact absurd h hpw
          rw [this]
          exact ⟨fun z => absurd z.1 (by decide), fun z => absurd z (by simp)⟩
      · rw [if_neg (fun z => ho0 z.1), if_pos rfl, Bool.and_eq_true, Bool.and_eq_true, Bool.and_eq_true, decide_eq_true_eq, decide_eq_true_eq, decide_eq_true_eq]
        constructor
        · rintro ⟨h1, h3⟩
          have := h3 (hodd1 (by omega) h1)
          exact ⟨⟨h1, by omega, by omega⟩, by omega⟩
        · rintro ⟨⟨h1, h3, h4⟩, h5⟩
          exact ⟨h1, fun _ => ⟨by omega, by omega⟩⟩
end MG

/-! MG: parts of tuples, texts of rows or none -/
namespace MG
open PySem PySem.Spec PyProof.Rows L2
theorem cut_allV {xs : List V} {lo hi : Option Int} (h : HT.sIx xs.length 0 lo = 0 ∧ HT.sIx xs.length xs.length hi = xs.length) : cutV xs lo hi = xs := by
  unfold cutV
  rw [h.1, h.2, List.drop_zero, Nat.sub_zero, List.take_length]
theorem slV {K : PySem.W.Frag} {H : Hp} {Q : VK} {a : Addr} {xs : List V} {lo hi : Option Int} (e : H a = some (.tup xs))
    (q : ∀ p H', Same H H' → (p = a ∨ H p = none) → H' p = some (.tup (cutV xs lo hi)) → Q (.ref p) H') : rSlA K (.ref a) lo hi H Q := by
  refine ⟨a, xs, rfl, SqT.of e, fun h => ?_, fun h p np => ?_⟩
  · exact q a H (Same.refl H) (.inl rfl) (by rw [cut_allV h]; exact e)
  · exact q p _ (same_updG np) (.inr np) upd_same
theorem catV {K : PySem.W.Frag} {H : Hp} {Q : VK} {a b : Addr} {xs ys : List V} (e : H a = some (.tup xs)) (e2 : H b = some (.tup ys)) (hz : xs.length + ys.length ≤ sizeLine)
    (q : ∀ p H', Same H H' → (p = a ∨ p = b ∨ H p = none) → H' p = some (.tup (xs ++ ys)) → Q (.ref p) H') : rCatA K (.ref a) (.ref b) H Q := by
  refine ⟨a, b, xs, ys, rfl, rfl, SqT.of e, SqT.of e2, hz, fun h => ?_, fun h1 h2 => ?_, fun h1 h2 p np => ?_⟩
  · subst h
    exact q b H (Same.refl H) (.inr (.inl rfl)) e2
  · subst h2
    exact q a H (Same.refl H) (.inl rfl) (by rw [List.append_nil]; exact e)
  · exact q p _ (same_updG np) (.inr (.inr np)) upd_same
theorem repV {K : PySem.W.Frag} {H : Hp} {Q : VK} {a : Addr} {x : V} {k : Nat} (e : H a = some (.tup [x])) (hk : k ≤ 1000)
    (q : ∀ p H', Same H H' → (p = a ∨ H p = none) → H' p = some (.tup (List.replicate k x)) → Q (.ref p) H') : rRepA K (.ref a) (.int (k : Int)) H Q := by
  refine ⟨a, k, [x], rfl, rfl, SqT.of e, List.cons_ne_nil _ _, by omega, by omega, by show 1 ≤ 1000; decide, fun h => ?_, fun h p np => ?_⟩
  · have : k = 1 := by omega
    subst this
    exact q a H (Same.refl H) (.inl rfl) e
  · refine q p _ (same_updG np) (.inr np) ?_
    rw [upd_same, Int.toNat_natCast]
    congr 2
    induction k with
    | zero => rfl
    | succ k ih =>
      rw [List.replicate_succ, List.flatten_cons, List.replicate_succ]
      congr 1
      clear q h
      clear ih
      induction k with
      | zero => rfl
      | succ k ih => rw [List.replicate_succ, List.flatten_cons, ih (by omega), List.replicate_succ]; rfl
theorem cut_toV {xs : List V} {n : Nat} (h : n ≤ xs.length) : cutV xs none (some (n : Int)) = xs.take n := by
  unfold cutV
  rw [HT.sIx_none, HT.sIx_nat, Nat.min_eq_left h, Nat.sub_zero, List.drop_zero]
theorem cut_fromV {xs : List V} {n : Nat} (h : n ≤ xs.length) : cutV xs (some (n : Int)) none = xs.drop n := by
  unfold cutV
  rw [HT.sIx_none, HT.sIx_nat, Nat.min_eq_left h]
  exact List.take_of_length_le (by rw [List.length_drop]; exact Nat.le_refl _)
theorem putV {xs : List V} {p : Nat} (v : V) (h : p < xs.length) : xs.take p ++ [v] ++ xs.drop (p + 1) = xs.set p v := by
  rw [List.append_assoc]
  exact (List.set_eq_take_append_cons_drop ..).symm ▸ (by rw [if_pos h]; rfl)
/-- a row or none, as data -/
def oD : Option (List Int) → PyData
  | none => .none
  | some o => rowDt o
theorem tup_ne_none (ds : List PyData) : (PyData.tuple ds).shown ≠ ("None" : Str) := by
  intro h
  have e : (PyData.tuple ds).shown = tupleText (PyData.shownAll ds) := rfl
  rw [e] at h
  unfold tupleText at h
  have h0 := congrArg (fun z : Str => z.cps[0]?) h
  have : (("(" : Str) ++ Str.join ", " (PyData.shownAll ds) ++ ((if (PyData.shownAll ds).length == 1 then ",)" else ")" : String) : Str)).cps[0]? = some 40 := by
    show ((("(" : Str).cps ++ (Str.join ", " (PyData.shownAll ds)).cps) ++ _)[0]? = some 40
    rw [Array.getElem?_append_left (by rw [Array.size_append]; show 0 < 1 + _; omega), Array.getElem?_append_left (by show 0 < 1; decide)]
    decide +kernel
  rw [this] at h0
  revert h0
  decide +kernel
theorem oD_none (o : Option (List Int)) : (!decide (V.str (oD o).shown = V.str "None")) = o.isSome := by
  cases o with
  | none => rw [decide_eq_true (by show V.str (PyData.none).shown = V.str "None"; rfl)]; rfl
  | some r =>
    show (!decide (V.str (PyData.tuple (r.map PyData.int)).shown = V.str "None")) = true
    rw [decide_eq_false (fun z => tup_ne_none (r.map PyData.int) (V.str.inj z))]; rfl
theorem Sh.oD {o : Option (List Int)} (h : ∀ r, o = some r → (∀ n ∈ r, 0 ≤ n ∧ n < 2 ^ 250) ∧ r.length ≤ 40) : Sh 1 (40 * 303 + 3) (MG.oD o) := by
  cases o with
  | none => exact Sh.none.le (by decide) (by decide)
  | some r => exact Sh.row (h r rfl).1 (h r rfl).2
theorem map_wV (o : List Int) : (o.map some).map wV = o.map V.int := by rw [List.map_map]; rfl
end MG

/-! MG: meetings; xs[i] -= e -/
namespace MG
open PySem PySem.Spec PyProof.Rows L2
def rGetL (K : PySem.W.Frag) : V → V → Hp → VK → Prop := fun x y H Q => ∃ (p : Addr) (xs : List V) (j : Nat) (v : V), x = .ref p ∧ y = .int (j : Int) ∧ SqL K H p xs ∧ xs[j]? = some v ∧ Q v H
theorem get_list {X : Cx} : PGet X (rGetL X.K) := by
  intro pins s σ H o i ov iv Q I ro ri h
  obtain ⟨p, xs, j, v, rfl, rfl, hq, hv, q⟩ := h
  cases ro
  obtain ⟨t, rfl⟩ := ri
  obtain ⟨its, r, pl, hz⟩ := I.list hq
  obtain ⟨u, hu, ru⟩ := r.get hv
  have hj : j < xs.length := (List.getElem?_eq_some_iff.mp hv).1
  have hl := r.length
  have hn := line63
  exact wpAny_getItem_list pl.isList (by omega) (by omega) (by simpa using hu) ⟨v, H, I, ru, q⟩
/-- the places of those who have something in all rows -/
def plF (n : Nat) (R : List (List Int)) : List Int := ((List.range n).filter fun j => R.all fun r => decide (0 < r.getD j 0)).map fun (j : Nat) => (j : Int)
def maxU : List (List Int) → Nat
  | [] => 0
  | r :: R => max (gl r) (maxU R)
def behF (n : Nat) (S : Int) (U : Nat) : List Int → List Int
  | [] => List.replicate n 0
  | [p] => (List.replicate n 0).set p.toNat S
  | p :: q :: _ => (((List.replicate n 0).set p.toNat S).set q.toNat (2 * (U : Int))).set p.toNat (S - 2 * (U : Int))
def unlike (n : Nat) (S : Int) (R : List (List Int)) : Bool := R.any fun r => decide (r.length ≠ n) || decide (r.sum ≠ S)
def meetF (n : Nat) (S : Int) (R : List (List Int)) : Option (List Int) :=
  if unlike n S R = true then none
  else if plF n R = [] then none
  else if ∀ r ∈ R, brkT r (behF n S (maxU R) (plF n R)) = [] then some (behF n S (maxU R) (plF n R)) else none
theorem pl_mem {n : Nat} {R : List (List Int)} {x : Int} (h : x ∈ plF n R) : ∃ p : Nat, x = p ∧ p < n ∧ ∀ r ∈ R, 0 < r.getD p 0 := by
  obtain ⟨p, hp, rfl⟩ := List.mem_map.mp h
  obtain ⟨h1, h2⟩ := List.mem_filter.mp hp
  refine ⟨p, rfl, List.mem_range.mp h1, fun r hr => ?_⟩
  exact of_decide_eq_true (List.all_eq_true.mp h2 r hr)
theorem pl_nodup (n : Nat) (R : List (List Int)) : (plF n R).Nodup := by
  unfold plF
  refine List.Pairwise.map _ ?_ ((List.nodup_range).filter _)
  intro a b h z
  exact h (by omega)
theorem max_ge : ∀ {R : List (List Int)} {r : List Int}, r ∈ R → gl r ≤ maxU R
  | x :: R, r, h => by
    rcases List.mem_cons.mp h with rfl | h
    · exact Nat.le_max_left _ _
    · exact Nat.le_trans (max_ge h) (Nat.le_max_right _ _)
theorem max_in : ∀ {R : List (List Int)}, R ≠ [] → ∃ r ∈ R, maxU R = gl r
  | [r], _ => ⟨r, List.mem_cons_self, by unfold maxU maxU; omega⟩
  | r :: r2 :: R, _ => by
    obtain ⟨x, hx, e⟩ := max_in (R := r2 :: R) (by simp)
    by_cases h : gl r ≤ maxU (r2 :: R)
    · exact ⟨x, List.mem_cons_of_mem _ hx, by show max _ _ = _; rw [Nat.max_eq_right h, e]⟩
    · exact ⟨r, List.mem_cons_self, by show max _ _ = _; exact Nat.max_eq_left (by omega)⟩
theorem three_sum {r : List Int} (nr : ∀ n ∈ r, 0 ≤ n) (h : 3 ≤ (hold r r.length).length) : 3 * (gl r : Int) ≤ r.sum := by
  have h1 : ∀ n ∈ r, (gl r : Int) * posF n ≤ n := fun n hn => by
    unfold posF
    by_cases h0 : 0 < n
    · rw [if_pos h0, Int.mul_one]; exact gl_le hn h0
    · rw [if_neg h0, Int.mul_zero]; exact nr n hn
  have h2 : (r.map fun n => (gl r : Int) * posF n).sum ≤ (r.map fun n => n).sum := sum_le_of (l := r) h1
  rw [map_id_sum] at h2
  have h3 : (r.map fun n => (gl r : Int) * posF n).sum = (gl r : Int) * (r.map posF).sum := by
    have := sc_sum (gl r : Int) (r.map posF)
    unfold sc at this
    rw [List.map_map] at this
    exact this
  have h4 := hold_pos r
  have h5 : (gl r : Int) * 3 ≤ (gl r : Int) * (r.map posF).sum := Int.mul_le_mul_of_nonneg_left (by omega) (by omega)
  omega
theorem od_pos {r : List Int} (nr : ∀ n ∈ r, 0 ≤ n) (hr : 0 < gl r) : 1 ≤ (r.map (oddF (v2 (gl r)))).sum := by
  apply Classical.byContradiction
  intro h
  have nn : ∀ x ∈ r.map (oddF (v2 (gl r))), 0 ≤ x := fun x hx => by obtain ⟨n, _, rfl⟩ := List.mem_map.mp hx; exact oddF_nn _ n
  have h0 := sum_nn nn
  have hz : (r.map (oddF (v2 (gl r)))).sum = 0 := by omega
  have hd : 2 ^ (v2 (gl r) + 1) ∣ gl r := gl_all fun n hn => by
    have h1 := mem_le_sumG nn _ (List.mem_map.mpr ⟨n, hn, rfl⟩)
    have h2 := oddF_nn (v2 (gl r)) n
    have h3 : oddF (v2 (gl r)) n = 0 := by omega
    unfold oddF at h3
    have h4 : n % 2 ^ (v2 (gl r) + 1) = 0 := by
      by_cases z : n % 2 ^ (v2 (gl r) + 1) = 0
      · exact z
      · rw [if_neg z] at h3; cases h3
    have h5 := Int.dvd_of_emod_eq_zero h4
    refine Int.natCast_dvd_natCast.mp ?_
    rw [Int.toNat_of_nonneg (nr n hn), Int.natCast_pow]
    exact h5
  have := (pow_dvd_iff hr).mp hd
  omega
theorem ms_pow {g S : Nat} (hg : 0 < g) (hS : 0 < S) (hd : g ∣ S) : (∃ k, S = g * 2 ^ k) ↔ S / 2 ^ v2 S = g / 2 ^ v2 g := by
  constructor
  · rintro ⟨k, rfl⟩
    rw [odd_mul hg (Nat.two_pow_pos k)]
    have : v2 (2 ^ k) = k := v2_unique (m := 1) (by rw [Nat.mul_one]) rfl
    rw [this, Nat.div_self (Nat.two_pow_pos k), Nat.mul_one]
  · intro e
    obtain ⟨c, rfl⟩ := hd
    have hc : 0 < c := Nat.pos_of_ne_zero fun z => by rw [z, Nat.mul_zero] at hS; omega
    rw [odd_mul hg hc] at e
    have hgo : 0 < g / 2 ^ v2 g := by have := odd_rest hg; omega
    have h1 : c / 2 ^ v2 c = 1 := Nat.eq_of_mul_eq_mul_left hgo (by rw [e, Nat.mul_one])
    refine ⟨v2 c, ?_⟩
    have h2 := v2_split hc
    rw [h1, Nat.mul_one] at h2
    rw [← h2]
theorem rep_at (n q : Nat) : (List.replicate n (0 : Int)).getD q 0 = 0 := by
  rw [List.getD_eq_getElem?_getD]
  by_cases h : q < n
  · rw [List.getElem?_replicate, if_pos h]; rfl
  · rw [List.getElem?_replicate, if_neg h]; rfl
theorem rep_map_sum (f : Int → Int) (f0 : f 0 = 0) (n : Nat) : ((List.replicate n (0 : Int)).map f).sum = 0 := sum_zero fun x hx => by
  obtain ⟨y, hy, rfl⟩ := List.mem_map.mp hx
  rw [List.eq_of_mem_replicate hy, f0]
theorem rep_get {n p : Nat} (h : p < n) : (List.replicate n (0 : Int))[p]? = some 0 := by rw [List.getElem?_replicate, if_pos h]
/-- what is due of rows that are to meet -/
theorem meet_due {n : Nat} {S : Int} {R : List (List Int)} {r0 : List Int} (h0 : r0 ∈ R) (nn : ∀ r ∈ R, ∀ x ∈ r, 0 ≤ x) (h3 : ∀ r ∈ R, 3 ≤ (hold r r.length).length) (hS : 0 < S) :
    (meetF n S R).isSome = true ↔ unlike n S R = false ∧ (∀ r ∈ R, ms r = ms r0) ∧ (2 ≤ (plF n R).length ∨ ((plF n R).length = 1 ∧ S.toNat / 2 ^ v2 S.toNat = gl r0 / 2 ^ v2 (gl r0))) := by
  unfold meetF
  cases hu : unlike n S R with
  | true => rw [if_pos rfl]; exact ⟨fun z => (by cases z), fun z => (by cases z.1)⟩
  | false =>
  rw [if_neg Bool.false_ne_true]
  have like : ∀ r ∈ R, r.length = n ∧ r.sum = S := fun r hr => by
    unfold unlike at hu
    have := List.any_eq_false.mp hu r hr
    simp only [Bool.or_eq_true, decide_eq_true_eq, not_or, ne_eq, Decidable.not_not] at this
    exact this
  have glp : ∀ r ∈ R, 0 < gl r := fun r hr => pos_gl (nn r hr) (by rw [(like r hr).2]; exact hS)
  have gld : ∀ r ∈ R, (gl r : Int) ∣ S := fun r hr => by
    rw [← (like r hr).2]
    exact sum_dvd fun x hx => gl_dvdI (nn r hr x hx) hx
  have gldN : ∀ r ∈ R, gl r ∣ S.toNat := fun r hr => by
    have := gld r hr
    refine Int.natCast_dvd_natCast.mp ?_
    rwa [Int.toNat_of_nonneg (by omega)]
  have three : ∀ r ∈ R, 3 * (gl r : Int) ≤ S := fun r hr => by rw [← (like r hr).2]; exact three_sum (nn r hr) (h3 r hr)
  -- all come to one row: the measures are alike
  have alike : ∀ o : List Int, (∀ r ∈ R, brkT r o = []) → (∀ r ∈ R, r ≠ o) → ∀ r ∈ R, ms r = ms r0 := fun o hb hne r hr => by
    have e : ∀ x ∈ R, ms o = ms x := fun x hx => by
      have h := hb x hx
      unfold brkT at h
      rw [if_neg (hne x hx)] at h
      split at h
      · cases h
      · exact (cl_iff.mp h).ms
    rw [← e r hr, ← e r0 h0]
  have fin : ∀ o : List Int, (if ∀ r ∈ R, brkT r o = [] then some o else none).isSome = true ↔ ∀ r ∈ R, brkT r o = [] := fun o => by
    by_cases h : ∀ r ∈ R, brkT r o = []
    · rw [if_pos h]; exact ⟨fun _ => h, fun _ => rfl⟩
    · rw [if_neg h]; exact ⟨fun z => (by cases z), fun z => absurd z h⟩
  match hpl : plF n R with
  | [] => rw [if_pos rfl]; exact ⟨fun z => (by cases z), fun z => (by rcases z.2.2 with h | h <;> simp at h)⟩
  | [x] =>
    obtain ⟨p, rfl, hp, hpos⟩ := pl_mem (n := n) (R := R) (x := x) (by rw [hpl]; exact List.mem_cons_self)
    rw [if_neg (by simp), fin]
    show (∀ r ∈ R, brkT r ((List.replicate n 0).set (p : Int).toNat S) = []) ↔ _
    rw [Int.toNat_natCast]
    generalize ho : (List.replicate n (0 : Int)).set p S = o
    have no : ∀ x ∈ o, 0 ≤ x := fun x hx => by
      rw [← ho] at hx
      rcases List.mem_or_eq_of_mem_set hx with z | z
      · rw [List.eq_of_mem_replicate z]; omega
      · omega
    have lo : o.length = n := by rw [← ho, List.length_set, List.length_replicate]
    have smf : ∀ f : Int → Int, f 0 = 0 → (o.map f).sum = f S := fun f f0 => by
      rw [← ho, sum_setF f (rep_get hp), rep_map_sum f f0, f0]; omega
    have so : o.sum = S := by have := smf (fun n => n) rfl; rwa [map_id_sum] at this
    have go : gl o = S.toNat := by
      have h1 : gl o ∣ S.toNat := gl_dvd (n := S) (by rw [← ho]; exact List.mem_of_getElem? (List.getElem?_set_self (by rw [List.length_replicate]; exact hp)))
      have h2 : S.toNat ∣ gl o := gl_all fun x hx => by
        rw [← ho] at hx
        rcases List.mem_or_eq_of_mem_set hx with z | z
        · rw [List.eq_of_mem_replicate z]; exact ⟨0, by simp⟩
        · rw [z]; exact Nat.dvd_refl _
      exact Nat.dvd_antisymm h1 h2
    have cO : (o.map posF).sum = 1 := by rw [smf posF rfl]; unfold posF; rw [if_pos hS]
    have hne : ∀ r ∈ R, r ≠ o := fun r hr z => by
      have h := h3 r hr
      have h4 := hold_pos r
      rw [z, cO] at h4
      rw [z] at h
      omega
    have each : ∀ r ∈ R, brkT r o = [] ↔ S.toNat / 2 ^ v2 S.toNat = gl r / 2 ^ v2 (gl r) := fun r hr => by
      have hb : brkT r o = [] ↔ Cl r o := by
        unfold brkT
        rw [if_neg (hne r hr), if_neg (fun z => z (by rw [(like r hr).1, lo]))]
        exact cl_iff
      have hz : ∀ q, r.getD q 0 = 0 → o.getD q 0 = 0 := fun q hq => by
        have hpq : p ≠ q := fun z => by have := hpos r hr; rw [z] at this; omega
        rw [← ho, set_at hpq, rep_at]
      rw [hb, cl_unit (nn r hr) no (glp r hr) (by rw [go]; omega) (by rw [so, (like r hr).2]) (by rw [(like r hr).1, lo]) hz, go, ms_pow (glp r hr) (by omega) (gldN r hr)]
      have := three r hr
      have := glp r hr
      exact ⟨fun z => z.1, fun z => ⟨z, fun y => by omega⟩⟩
    constructor
    · intro h
      refine ⟨rfl, alike o h hne, .inr ⟨by simp, (each r0 h0).mp (h r0 h0)⟩⟩
    · rintro ⟨_, hm, h⟩ r hr
      rcases h with h | ⟨_, h⟩
      · simp at h
      · refine (each r hr).mpr ?_
        have := hm r hr
        rw [ms_nat, ms_nat] at this
        omega
  | x :: y :: rest =>
    obtain ⟨p, rfl, hp, hpos⟩ := pl_mem (n := n) (R := R) (x := x) (by rw [hpl]; exact List.mem_cons_self)
    obtain ⟨q, rfl, hq, hqos⟩ := pl_mem (n := n) (R := R) (x := y) (by rw [hpl]; exact List.mem_cons_of_mem _ List.mem_cons_self)
    have hpq : p ≠ q := fun z => by
      have := pl_nodup n R
      rw [hpl] at this
      exact (List.nodup_cons.mp this).1 (by rw [z]; exact List.mem_cons_self)
    rw [if_neg (by simp), fin]
    obtain ⟨rm, hrm, em⟩ := max_in (R := R) (List.ne_nil_of_mem h0)
    show (∀ r ∈ R, brkT r ((((List.replicate n 0).set (p : Int).toNat S).set (q : Int).toNat (2 * (maxU R : Int))).set (p : Int).toNat (S - 2 * (maxU R : Int))) = []) ↔ _
    rw [Int.toNat_natCast, Int.toNat_natCast, em]
    have hU3 := three rm hrm
    have hU0 := glp rm hrm
    have hUd := gld rm hrm
    generalize ho : (((List.replicate n (0 : Int)).set p S).set q (2 * (gl rm : Int))).set p (S - 2 * (gl rm : Int)) = o
    have mem0 : ∀ x ∈ o, x = 0 ∨ x = S ∨ x = 2 * (gl rm : Int) ∨ x = S - 2 * (gl rm : Int) := fun x hx => by
      rw [← ho] at hx
      rcases List.mem_or_eq_of_mem_set hx with z | z
      · rcases List.mem_or_eq_of_mem_set z with z | z
        · rcases List.mem_or_eq_of_mem_set z with z | z
          · exact .inl (List.eq_of_mem_replicate z)
          · exact .inr (.inl z)
        · exact .inr (.inr (.inl z))
      · exact .inr (.inr (.inr z))
    have no : ∀ x ∈ o, 0 ≤ x := fun x hx => by rcases mem0 x hx with z | z | z | z <;> omega
    have lo : o.length = n := by rw [← ho, List.length_set, List.length_set, List.length_set, List.length_replicate]
    have smf : ∀ f : Int → Int, f 0 = 0 → (o.map f).sum = f (2 * (gl rm : Int)) + f (S - 2 * (gl rm : Int)) := fun f f0 => by
      rw [← ho, sum_setF f (y := S) (by rw [List.getElem?_set_ne hpq.symm, List.getElem?_set_self (by rw [List.length_replicate]; exact hp)]), sum_setF f (y := 0) (by rw [List.getElem?_set_ne hpq]; exact rep_get hq), sum_setF f (rep_get hp), rep_map_sum f f0, f0]
      omega
    have so : o.sum = S := by have := smf (fun n => n) rfl; rw [map_id_sum] at this; omega
    have m2 : 2 * (gl rm : Int) ∈ o := by
      rw [← ho]
      refine List.mem_of_getElem? (i := q) ?_
      rw [List.getElem?_set_ne hpq, List.getElem?_set_self (by rw [List.length_set, List.length_replicate]; exact hq)]
    have dvo : ∀ x ∈ o, (gl rm : Int) ∣ x := fun x hx => by
      rcases mem0 x hx with z | z | z | z
      · rw [z]; exact ⟨0, by simp⟩
      · rw [z]; exact hUd
      · rw [z]; exact ⟨2, by rw [Int.mul_comm]⟩
      · rw [z]; exact Int.dvd_sub hUd ⟨2, by rw [Int.mul_comm]⟩
    have hgl := gl_between no dvo m2 hU0
    have cO : (o.map posF).sum = 2 := by
      rw [smf posF rfl]
      unfold posF
      rw [if_pos (by omega), if_pos (by omega)]; decide
    have hne : ∀ r ∈ R, r ≠ o := fun r hr z => by
      have h := h3 r hr
      have h4 := hold_pos r
      rw [z, cO] at h4
      rw [z] at h
      omega
    constructor
    · intro h
      exact ⟨rfl, alike o h hne, .inl (by simp)⟩
    · rintro ⟨_, hm, _⟩ r hr
      refine brk_of_cl (by rw [(like r hr).1, lo]) ?_
      have hz : ∀ j, r.getD j 0 = 0 → o.getD j 0 = 0 := fun j hj => by
        have hpj : p ≠ j := fun z => by have := hpos r hr; rw [z] at this; omega
        have hqj : q ≠ j := fun z => by have := hqos r hr; rw [z] at this; omega
        rw [← ho, set_at hpj, set_at hqj, set_at hpj, rep_at]
      have hgo : 0 < gl o := by rcases hgl with z | z <;> omega
      refine (cl_unit (nn r hr) no (glp r hr) hgo (by rw [so, (like r hr).2]) (by rw [(like r hr).1, lo]) hz).mpr ⟨?_, fun e => ⟨?_, ?_⟩⟩
      · -- each unit parts the greatest one, by twos alone
        have hle : gl r ≤ gl rm := by rw [← em]; exact max_ge hr
        have e1 : gl rm / 2 ^ v2 (gl rm) = gl r / 2 ^ v2 (gl r) := by
          have a := hm r hr
          have b := hm rm hrm
          rw [ms_nat, ms_nat] at a b
          omega
        have hv : v2 (gl r) ≤ v2 (gl rm) := by
          apply Classical.byContradiction
          intro z
          have s1 := v2_split (glp r hr)
          have s2 := v2_split hU0
          rw [e1] at s2
          have hor := odd_rest (glp r hr)
          have hmo : 0 < gl r / 2 ^ v2 (gl r) := Nat.pos_of_ne_zero fun z => by rw [z] at hor; cases hor
          have : 2 ^ v2 (gl rm) < 2 ^ v2 (gl r) := Nat.pow_lt_pow_right (by decide) (by omega)
          have := Nat.mul_lt_mul_of_pos_right this hmo
          omega
        have hdm : gl r ∣ gl rm := by
          rw [v2_split (glp r hr), v2_split hU0, e1]
          exact Nat.mul_dvd_mul (Nat.pow_dvd_pow 2 hv) (Nat.dvd_refl _)
        have hdo : gl r ∣ gl o := by
          rcases hgl with z | z
          · rw [z]; exact hdm
          · rw [z]; exact Nat.dvd_trans hdm ⟨2, Nat.mul_comm _ _⟩
        refine (ms_pow (glp r hr) hgo hdo).mpr ?_
        have hmo := (ms_of (g := gl rm) (g' := gl o) hU0 hgl).1
        have e3 : ((gl o : Int) / 2 ^ v2 (gl o)) = ((gl o / 2 ^ v2 (gl o) : Nat) : Int) := by rw [Int.natCast_ediv, Int.natCast_pow]; rfl
        have e4 : ((gl rm : Int) / 2 ^ v2 (gl rm)) = ((gl rm / 2 ^ v2 (gl rm) : Nat) : Int) := by rw [Int.natCast_ediv, Int.natCast_pow]; rfl
        rw [e3, e4] at hmo
        omega
      · have hle : gl r ≤ gl rm := by rw [← em]; exact max_ge hr
        have eU : gl r = gl rm := by rcases hgl with z | z <;> omega
        rw [smf _ (oddF_zero _), eU, oddF_two rfl, ← eU]
        have h1 := od_pos (nn r hr) (glp r hr)
        have h2 : oddF (v2 (gl r)) (S - 2 * (gl r : Int)) ≤ 1 := by unfold oddF; split <;> decide
        omega
      · have hle : gl r ≤ gl rm := by rw [← em]; exact max_ge hr
        have eU : gl r = gl rm := by rcases hgl with z | z <;> omega
        rw [cO, smf _ (oddF_zero _), eU, oddF_two rfl, ← eU]
        have h2 : oddF (v2 (gl r)) (S - 2 * (gl r : Int)) ≤ 1 := by unfold oddF; split <;> decide
        omega
end MG

/-! MG: {row: v} -/
namespace MG
open PySem PySem.Spec PyProof.Rows L2
section
variable {X : Cx}
def tDispT (tk tv : TE) : TE := fun σ H Q => ∀ p, H p = none → tk σ (upd H p (.dT [])) fun x H1 => tv σ H1 fun y H2 => H2 p = some (.dT []) ∧ ∃ b k, x = .ref b ∧ H2 b = some (.tup (k.map kV)) ∧ Q (.ref p) (upd H2 p (.dT [(k, y)]))
theorem pe_dispT {k v : PySem.Expr} {tk tv : TE} {pos : Pos} (hu : X.A.units + 1 < cLine) (hk : PE X k tk) (hv : PE X v tv) : PE X (.Dict [some k] [v] pos) (tDispT tk tv) := by
  refine ⟨fun pins s σ H Q I q => ?_⟩
  have hn := I.hok.fresh (Nat.le_refl s.heap.objs.size)
  have I1 := I.laid (a := s.heap.objs.size) (o := .dT []) (h' := s.heap.push { cls := .type "dict", data := .dict #[] }) (t' := s.toks) (fun _ _ q => Heap.get?_push_of_some _ q) (Nat.le_refl _) (dt_empty s.heap I.big)
  refine wpAny_Dict_any rfl rfl (by simp) (by simp) (pairTrees_cons_walk (thn (hk.run pins _ σ _ _ I1 (q _ hn)) fun u s1 ⟨x, H1, I1, rx, q1⟩ => thn (hv.run pins s1 σ H1 _ I1 q1) fun w2 s2 ⟨y, H2, I2, ry, q2⟩ => pairTrees_nil_walk ?_))
  obtain ⟨e, b, kk, rfl, eb, q3⟩ := q2
  cases (show u = Value.ref b from rx)
  obtain ⟨z, hd, xs, rel, dd⟩ := dt_of I2.hok e
  cases rel
  refine wpAny_storeAllH (knd := tupleKind (mixKind X.prog X.w)) (show X.A.units < cLine by omega) [(.ref b, w2)] [(kk, b, w2)] [] s2 _ ⟨rfl, rfl, key_of I2.hok eb, trivial⟩ dd (by rw [sizeLine_eq]; simp) fun h' tk dd' hs => ?_
  obtain ⟨q, es, ep, hq, h2, h3, h4, _, h5⟩ := dd'
  refine ⟨.ref s.heap.objs.size, _, ?_, rfl, q3⟩
  refine d_write I2 (by rw [e]; exact True.intro) hs ⟨q, hq⟩ ⟨by rw [sizeLine_eq]; show 1 ≤ _; decide, hd, _, (KT.put (kvs := []) (xs := []) .nil kk eb ry).keeps fun c ys ec => ?_, q, es, ep, hq, h2, h3, h4, h5⟩
  rw [upd_ne (ne_of ec e (fun z => nomatch z))]
  exact ec
end
end MG

/-! MG: all rows that deeds come to -/
namespace MG
open PySem PySem.Spec PyProof.Rows L2
inductive Re (r : List Int) : List Int → Prop
  | refl : Re r r
  | step {m : List Int} {i j : Nat} : Re r m → MayG m i j → Re r (deed m i j)
theorem Re.keeps {r o : List Int} (h : Re r o) (nn : ∀ n ∈ r, 0 ≤ n) : o.length = r.length ∧ o.sum = r.sum ∧ ∀ n ∈ o, 0 ≤ n := by
  induction h with
  | refl => exact ⟨rfl, rfl, nn⟩
  | step _ m ih =>
    have l := deed_lv m ih.2.2
    exact ⟨l.len.trans ih.1, l.sum.trans ih.2.1, l.nn⟩
theorem Re.trans {r m o : List Int} (a : Re r m) (b : Re m o) : Re r o := by
  induction b with
  | refl => exact a
  | step _ h ih => exact .step ih h
theorem Re.lv {r m o : List Int} (a : Lv r m) (b : Re m o) : Lv r o := by
  induction b with
  | refl => exact a
  | step _ h ih => exact ih.trans (deed_lv h ih.nn)
def enc : List Int → Nat
  | [] => 0
  | x :: l => x.toNat + 13 * enc l
theorem enc_lt : ∀ {l : List Int}, (∀ x ∈ l, x ≤ 12) → enc l < 13 ^ l.length
  | [], _ => by decide
  | x :: l, h => by
    have ih := enc_lt (l := l) fun y hy => h y (List.mem_cons_of_mem _ hy)
    have hx := h x List.mem_cons_self
    unfold enc
    rw [List.length_cons, Nat.pow_succ]
    omega
theorem enc_inj : ∀ {a b : List Int}, a.length = b.length → (∀ x ∈ a, 0 ≤ x ∧ x ≤ 12) → (∀ x ∈ b, 0 ≤ x ∧ x ≤ 12) → enc a = enc b → a = b
  | [], [], _, _, _, _ => rfl
  | [], _ :: _, h, _, _, _ => by simp at h
  | _ :: _, [], h, _, _, _ => by simp at h
  | x :: a, y :: b, hl, ha, hb, e => by
    have hx := ha x List.mem_cons_self
    have hy := hb y List.mem_cons_self
    unfold enc at e
    have : x = y := by omega
    subst this
    rw [enc_inj (by simpa using hl) (fun z hz => ha z (List.mem_cons_of_mem _ hz)) (fun z hz => hb z (List.mem_cons_of_mem _ hz)) (by omega)]
/-- few rows of small sums -/
theorem few_rows {n : Nat} {F : List (List Int)} (nd : F.Nodup) (h : ∀ o ∈ F, o.length = n ∧ ∀ x ∈ o, 0 ≤ x ∧ x ≤ 12) : F.length ≤ 13 ^ n := by
  have e := few_below (13 ^ n) (F.map enc) (by
    rw [List.Nodup, List.pairwise_map]
    refine List.Pairwise.imp_of_mem ?_ nd
    intro a b ha hb hne z
    exact hne (enc_inj ((h a ha).1.trans (h b hb).1.symm) (h a ha).2 (h b hb).2 z)) fun x hx => by
    obtain ⟨o, ho, rfl⟩ := List.mem_map.mp hx
    have := enc_lt (l := o) fun y hy => ((h o ho).2 y hy).2
    rw [(h o ho).1] at this
    exact this
  rw [List.length_map] at e
  exact e
theorem le_sum12 {o : List Int} (nn : ∀ x ∈ o, 0 ≤ x) (hs : o.sum ≤ 12) : ∀ x ∈ o, 0 ≤ x ∧ x ≤ 12 := fun x hx => ⟨nn x hx, by
  have := mem_le_sumG nn x hx
  omega⟩
def kR (r : List Int) : List Key := r.map Sum.inl
theorem kR_map (r : List Int) : (kR r).map kV = r.map V.int := by unfold kR; rw [List.map_map]; rfl
theorem kR_inj {a b : List Int} (e : kR a = kR b) : a = b := by
  have : (kR a).map kV = (kR b).map kV := by rw [e]
  rw [kR_map, kR_map] at this
  exact List.map_inj_right (fun x y h => by injection h) |>.mp this
def dE (e : List Int × Int) : List Key × V := (kR e.1, .int e.2)
theorem valE_none {o : List Int} : ∀ {E : List (List Int × Int)}, o ∉ E.map Prod.fst → valV (E.map dE) (kR o) = none
  | [], _ => rfl
  | e :: E, h => by
    rw [List.map_cons, List.mem_cons, not_or] at h
    rw [List.map_cons, valV_neg (fun z => h.1 (kR_inj z).symm)]
    exact valE_none h.2
theorem valE_some {o : List Int} : ∀ {E : List (List Int × Int)}, o ∈ E.map Prod.fst → ∃ c, valV (E.map dE) (kR o) = some (.int c)
  | [], h => by cases h
  | e :: E, h => by
    by_cases z : e.1 = o
    · exact ⟨e.2, by rw [List.map_cons, valV_pos (show (dE e).1 = kR o by show kR e.1 = _; rw [z])]; rfl⟩
    · rw [List.map_cons, List.mem_cons] at h
      obtain ⟨c, hc⟩ := valE_some (h.resolve_left fun y => z y.symm)
      exact ⟨c, by rw [List.map_cons, valV_neg (fun y => z (kR_inj y))]; exact hc⟩
/-- while the next ones are sought -/
structure Mid (r : List Int) (F : List (List Int)) (E : List (List Int × Int)) (M : List (List Int)) : Prop where
  nd : (E.map Prod.fst).Nodup
  re : ∀ o ∈ E.map Prod.fst, Re r o
  sub : ∀ o ∈ F, o ∈ E.map Prod.fst
  new : ∀ o ∈ E.map Prod.fst, o ∈ F ∨ o ∈ M
  mem : ∀ o ∈ M, o ∈ E.map Prod.fst
  grow : F.length + M.length = E.length
theorem Mid.put {r : List Int} {F : List (List Int)} {E : List (List Int × Int)} {M : List (List Int)} {o : List Int} {c : Int} (h : Mid r F E M) (ho : o ∉ E.map Prod.fst) (hr : Re r o) : Mid r F (E ++ [(o, c)]) (M ++ [o]) := by
  have e : (E ++ [(o, c)]).map Prod.fst = E.map Prod.fst ++ [o] := by rw [List.map_append]; rfl
  refine ⟨?_, fun x hx => ?_, fun x hx => ?_, fun x hx => ?_, fun x hx => ?_, ?_⟩
  · rw [e]
    refine List.nodup_append.mpr ⟨h.nd, by simp, fun a ha b hb z => ?_⟩
    rw [z, List.mem_singleton.mp hb] at ha
    exact ho ha
  · rw [e] at hx
    rcases List.mem_append.mp hx with z | z
    · exact h.re x z
    · rw [List.mem_singleton.mp z]; exact hr
  · rw [e]
    exact List.mem_append_left _ (h.sub x hx)
  · rw [e] at hx
    rcases List.mem_append.mp hx with z | z
    · exact (h.new x z).imp id (List.mem_append_left _)
    · exact .inr (List.mem_append_right _ z)
  · rw [e]
    rcases List.mem_append.mp hx with z | z
    · exact List.mem_append_left _ (h.mem x z)
    · exact List.mem_append_right _ z
  · rw [List.length_append, List.length_append, ← h.grow]
    show _ = _ + 1
    show _ + (_ + 1) = _
    omega
/-- all that is closed and holds the row holds what deeds come to -/
theorem re_in {r : List Int} {F : List (List Int)} (h0 : r ∈ F) (hc : ∀ o ∈ F, ∀ i j, MayG o i j → deed o i j ∈ F) {o : List Int} (h : Re r o) : o ∈ F := by
  induction h with
  | refl => exact h0
  | step _ m ih => exact hc _ ih _ _ m
end MG

/-! MG: rows that come again -/
namespace MG
open PySem PySem.Spec PyProof.Rows L2
theorem odd_half {s x : Nat} (hs : s % 2 = 1) (h : s ∣ 2 * x) : s ∣ x := by
  obtain ⟨c, hc⟩ := h
  have h1 : (s * c) % 2 = 0 := by rw [← hc]; omega
  rw [Nat.mul_mod, hs, Nat.one_mul, Nat.mod_mod] at h1
  refine ⟨c / 2, ?_⟩
  have h2 : c = 2 * (c / 2) := by omega
  rw [h2, Nat.mul_left_comm] at hc
  omega
theorem odd_dvd {s m : Nat} (hs : s % 2 = 1) : ∀ {n : Nat}, s ∣ 2 ^ n * m → s ∣ m
  | 0, h => by rw [Nat.pow_zero, Nat.one_mul] at h; exact h
  | n + 1, h => by
    rw [Nat.pow_succ, Nat.mul_comm (2 ^ n) 2, Nat.mul_assoc] at h
    exact odd_dvd hs (odd_half hs h)
theorem od_ge {r : List Int} (nr : ∀ n ∈ r, 0 ≤ n) (h : ∃ n ∈ r, 0 < n) : 1 ≤ od r := by
  obtain ⟨n, hn, h0⟩ := h
  have h1 := od_sum nr
  have h2 := od_pos nr (gl_pos hn h0)
  omega
theorem ring_pair {p q : Nat} (p0 : 0 < p) (q0 : 0 < q) (hv : v2 p < v2 q) : (∀ n, 0 < p * 2 ^ n % (p + q)) ∧ ∃ d, 1 ≤ d ∧ p * 2 ^ d % (p + q) = p := by
  obtain ⟨t, et⟩ : ∃ t, v2 p = t := ⟨_, rfl⟩
  obtain ⟨p', ep, hp'⟩ : ∃ p', p = 2 ^ t * p' ∧ p' % 2 = 1 := ⟨p / 2 ^ v2 p, by rw [← et]; exact v2_split p0, odd_rest p0⟩
  obtain ⟨q', eq, hq'⟩ : ∃ q', q = 2 ^ t * q' ∧ q' % 2 = 0 := by
    refine ⟨2 ^ (v2 q - t) * (q / 2 ^ v2 q), ?_, ?_⟩
    · rw [← Nat.mul_assoc, ← Nat.pow_add, show t + (v2 q - t) = v2 q by omega]
      exact v2_split q0
    · obtain ⟨u, hu⟩ : ∃ u, v2 q - t = u + 1 := ⟨v2 q - t - 1, by omega⟩
      rw [hu, Nat.pow_succ, Nat.mul_comm (2 ^ u) 2, Nat.mul_assoc]
      omega
  have hT : 0 < 2 ^ t := Nat.pow_pos (by decide)
  have hq'0 : 0 < q' := by
    rcases Nat.eq_zero_or_pos q' with z | z
    · rw [z, Nat.mul_zero] at eq; omega
    · exact z
  have es : p + q = 2 ^ t * (p' + q') := by rw [ep, eq, Nat.mul_add]
  have hs' : (p' + q') % 2 = 1 := by omega
  have hp'0 : 0 < p' := by omega
  constructor
  · intro n
    rcases Nat.eq_zero_or_pos (p * 2 ^ n % (p + q)) with z | z
    · have h1 : (p + q) ∣ p * 2 ^ n := Nat.dvd_of_mod_eq_zero z
      rw [es, show p * 2 ^ n = 2 ^ t * (2 ^ n * p') by rw [ep, Nat.mul_assoc, Nat.mul_comm p' (2 ^ n)]] at h1
      have h2 := Nat.dvd_of_mul_dvd_mul_left hT h1
      have h3 := Nat.le_of_dvd hp'0 (odd_dvd hs' h2)
      omega
    · exact z
  · obtain ⟨i, j, hij, _, e⟩ := again (f := fun n => p * 2 ^ n % (p + q)) (s := p + q) fun n => Nat.mod_lt _ (by omega)
    obtain ⟨d, rfl⟩ : ∃ d, j = i + d := ⟨j - i, by omega⟩
    refine ⟨d, by omega, ?_⟩
    have h0 : 1 ≤ 2 ^ d := Nat.one_le_two_pow
    have h1 : (p + q) ∣ p * 2 ^ (i + d) - p * 2 ^ i := Nat.dvd_of_mod_eq_zero (Nat.sub_mod_eq_zero_of_mod_eq (show p * 2 ^ (i + d) % (p + q) = p * 2 ^ i % (p + q) from e.symm))
    have h2 : p * 2 ^ (i + d) - p * 2 ^ i = 2 ^ t * (2 ^ i * (p' * 2 ^ d - p')) := by
      rw [ep, Nat.pow_add, Nat.mul_sub, Nat.mul_sub]
      congr 1
      · ac_rfl
      · ac_rfl
    rw [es, h2] at h1
    have h3 := odd_dvd hs' (Nat.dvd_of_mul_dvd_mul_left hT h1)
    have h4 : (p + q) ∣ p * 2 ^ d - p := by
      rw [es, show p * 2 ^ d - p = 2 ^ t * (p' * 2 ^ d - p') by rw [Nat.mul_sub, ep, Nat.mul_assoc]]
      exact Nat.mul_dvd_mul_left _ h3
    have h5 : p ≤ p * 2 ^ d := Nat.le_mul_of_pos_right _ (by omega)
    obtain ⟨c, hc⟩ := h4
    have h6 : p * 2 ^ d = p + (p + q) * c := by omega
    rw [h6, Nat.add_mul_mod_self_left, Nat.mod_eq_of_lt (by omega)]
theorem setP_id {r : List Int} {i j p q : Nat} (T : Two r i j p q) : setP r i j (p : Int) = r := by
  unfold setP
  rw [T.ei, T.ej]
  have hi := T.hi
  have hj := T.hj
  have e1 : r.set i (p : Int) = r := by
    have := T.ei
    rw [getD_eq hi] at this
    rw [← this]
    exact List.set_getElem_self hi
  have e2 : (p : Int) + q - p = q := by omega
  rw [e1, e2]
  have := T.ej
  rw [getD_eq hj] at this
  rw [← this]
  exact List.set_getElem_self hj
theorem round_back {r : List Int} (nr : ∀ n ∈ r, 0 ≤ n) (hp : ∃ n ∈ r, 0 < n) (h : od r < (hold r r.length).length) : ∃ i j, MayG r i j ∧ Re (deed r i j) r := by
  have h1 := od_ge nr hp
  unfold od at h h1
  generalize v2 (gl r) = t at h h1
  obtain ⟨x, hx⟩ := List.exists_mem_of_length_pos h1
  unfold fewT at hx h
  obtain ⟨hxr, hx2⟩ := List.mem_filter.mp hx
  simp only [Bool.and_eq_true, decide_eq_true_eq] at hx2
  obtain ⟨y, hyr, hy0, hyv⟩ : ∃ y ∈ r, 0 < y ∧ t < v2 y.toNat := by
    apply Classical.byContradiction
    intro z
    rw [hold_all] at h
    have e : (r.filter fun n => decide (n > 0) && decide (v2 n.toNat ≤ t)) = r.filter fun n => decide (0 < n) := by
      refine List.filter_congr fun n hn => ?_
      by_cases h0 : 0 < n
      · have : v2 n.toNat ≤ t := Nat.le_of_not_lt fun w => z ⟨n, hn, h0, w⟩
        rw [decide_eq_true this, Bool.and_true]
      · rw [decide_eq_false h0]
        simp
    rw [e] at h
    omega
  obtain ⟨i, hi, ei⟩ := List.getElem_of_mem hxr
  obtain ⟨j, hj, ej⟩ := List.getElem_of_mem hyr
  have hij : i ≠ j := fun z => by
    subst z
    rw [ei] at ej
    subst ej
    omega
  obtain ⟨p, rfl⟩ : ∃ p : Nat, x = p := ⟨x.toNat, by omega⟩
  obtain ⟨q, rfl⟩ : ∃ q : Nat, y = q := ⟨y.toNat, by omega⟩
  rw [Int.toNat_natCast] at hyv
  have hxv := hx2.2
  rw [Int.toNat_natCast] at hxv
  have T : Two r i j p q := ⟨hi, hj, hij, by rw [getD_eq hi, ei], by rw [getD_eq hj, ej], by omega, by omega⟩
  obtain ⟨fp, d, hd, fd⟩ := ring_pair T.p0 T.q0 (by omega)
  have step : ∀ n, ∃ a b, MayG (setP r i j ((p * 2 ^ n % (p + q) : Nat) : Int)) a b ∧ deed (setP r i j ((p * 2 ^ n % (p + q) : Nat) : Int)) a b = setP r i j ((p * 2 ^ (n + 1) % (p + q) : Nat) : Int) := fun n => by
    have hlt : p * 2 ^ n % (p + q) < p + q := Nat.mod_lt _ (by omega)
    have h0 := fp n
    have eN : p * 2 ^ (n + 1) % (p + q) = 2 * (p * 2 ^ n % (p + q)) % (p + q) := by
      rw [Nat.pow_succ, ← Nat.mul_assoc, Nat.mul_comm (p * 2 ^ n) 2]
      rw [Nat.mul_mod, Nat.mul_mod 2 (p * 2 ^ n % (p + q)), Nat.mod_mod]
    rw [eN]
    generalize p * 2 ^ n % (p + q) = u at hlt h0
    have T' : Two (setP r i j (u : Int)) i j u (p + q - u) := ⟨by rw [setP_len]; exact hi, by rw [setP_len]; exact hj, hij, setP_i T _, by rw [setP_j T]; omega, h0, by omega⟩
    obtain ⟨a, b, m, e⟩ := two_step T'
    refine ⟨a, b, m, ?_⟩
    rw [e, setP_setP T, show u + (p + q - u) = p + q by omega]
  have e0 : setP r i j ((p * 2 ^ 0 % (p + q) : Nat) : Int) = r := by
    rw [Nat.pow_zero, Nat.mul_one, Nat.mod_eq_of_lt (by have := T.q0; omega)]
    exact setP_id T
  obtain ⟨a, b, m, e⟩ := step 0
  rw [e0] at m e
  refine ⟨a, b, m, ?_⟩
  rw [e]
  have far : ∀ k, Re (setP r i j ((p * 2 ^ (0 + 1) % (p + q) : Nat) : Int)) (setP r i j ((p * 2 ^ (0 + 1 + k) % (p + q) : Nat) : Int)) := fun k => by
    induction k with
    | zero => exact .refl
    | succ k ih =>
      obtain ⟨a, b, m, e⟩ := step (0 + 1 + k)
      have := Re.step ih m
      rw [e] at this
      exact this
  have hf := far (d - 1)
  rw [show 0 + 1 + (d - 1) = d by omega, fd, setP_id T] at hf
  exact hf
/-- a row comes again where not all amounts are halved as often -/
theorem round_iff {r : List Int} (nr : ∀ n ∈ r, 0 ≤ n) (hp : ∃ n ∈ r, 0 < n) : (∃ i j, MayG r i j ∧ Re (deed r i j) r) ↔ od r < (hold r r.length).length :=
  ⟨fun ⟨i, j, m, h⟩ => (Re.lv (deed_lv m nr) h).dbl rfl, round_back nr hp⟩
end MG

/-! MLa: ways of deeds, the least of the shortest ones, level by level. Pure mathematics. -/
namespace MG
open PySem PySem.Spec PyProof.Rows L2
abbrev Way := List (Int × Int)
def clt (c d : Int × Int) : Prop := c.1 < d.1 ∨ (c.1 = d.1 ∧ c.2 < d.2)
theorem clt_tri (c d : Int × Int) : c = d ∨ clt c d ∨ clt d c := by
  obtain ⟨a, b⟩ := c
  obtain ⟨x, y⟩ := d
  unfold clt
  dsimp only
  by_cases h1 : a = x
  · by_cases h2 : b = y
    · exact .inl (by rw [h1, h2])
    · omega
  · omega
theorem clt_trans {c d e : Int × Int} (h : clt c d) (k : clt d e) : clt c e := by
  unfold clt at *
  omega
theorem clt_irr {c : Int × Int} : ¬ clt c c := by
  unfold clt
  omega
/-- the lesser one of two ways of one length -/
def wlt : Way → Way → Prop
  | c :: v, d :: w => clt c d ∨ (c = d ∧ wlt v w)
  | _, _ => False
theorem wlt_irr : ∀ {u : Way}, ¬ wlt u u
  | [] => fun h => h
  | c :: u => fun h => by
    rcases h with h | ⟨_, h⟩
    · exact clt_irr h
    · exact wlt_irr h
theorem wlt_trans : ∀ {u v w : Way}, wlt u v → wlt v w → wlt u w
  | c :: u, d :: v, e :: w, h, k => by
    rcases h with h | ⟨rfl, h⟩
    · rcases k with k | ⟨rfl, k⟩
      · exact .inl (clt_trans h k)
      · exact .inl h
    · rcases k with k | ⟨rfl, k⟩
      · exact .inl k
      · exact .inr ⟨rfl, wlt_trans h k⟩
theorem wlt_tri : ∀ {u v : Way}, u.length = v.length → u = v ∨ wlt u v ∨ wlt v u
  | [], [], _ => .inl rfl
  | [], _ :: _, h => by simp at h
  | _ :: _, [], h => by simp at h
  | c :: u, d :: v, h => by
    rcases clt_tri c d with rfl | z | z
    · rcases wlt_tri (u := u) (v := v) (by simpa using h) with rfl | y | y
      · exact .inl rfl
      · exact .inr (.inl (.inr ⟨rfl, y⟩))
      · exact .inr (.inr (.inr ⟨rfl, y⟩))
    · exact .inr (.inl (.inl z))
    · exact .inr (.inr (.inl z))
theorem wlt_app : ∀ {u v : Way} (x y : Way), u.length = v.length → wlt u v → wlt (u ++ x) (v ++ y)
  | c :: u, d :: v, x, y, hl, h => by
    rcases h with h | ⟨rfl, h⟩
    · exact .inl h
    · exact .inr ⟨rfl, wlt_app x y (by simpa using hl) h⟩
theorem wlt_pre : ∀ (u : Way) {x y : Way}, wlt x y → wlt (u ++ x) (u ++ y)
  | [], _, _, h => h
  | c :: u, _, _, h => .inr ⟨rfl, wlt_pre u h⟩
theorem wlt_last {u : Way} {c d : Int × Int} (h : clt c d) : wlt (u ++ [c]) (u ++ [d]) := wlt_pre u (.inl h)
/-- the row behind a deed -/
def dd (r : List Int) (c : Int × Int) : List Int := deed r c.1.toNat c.2.toNat
/-- a way leads there -/
def Wk : List Int → Way → List Int → Prop
  | r, [], o => r = o
  | r, c :: w, o => c ∈ dl r ∧ Wk (dd r c) w o
theorem wk_app : ∀ {r o : List Int} {u v : Way}, Wk r (u ++ v) o ↔ ∃ m, Wk r u m ∧ Wk m v o
  | r, o, [], v => ⟨fun h => ⟨r, rfl, h⟩, fun ⟨m, h, k⟩ => by cases h; exact k⟩
  | r, o, c :: u, v => by
    constructor
    · rintro ⟨h, k⟩
      obtain ⟨m, a, b⟩ := wk_app.mp k
      exact ⟨m, ⟨h, a⟩, b⟩
    · rintro ⟨m, ⟨h, a⟩, b⟩
      exact ⟨h, wk_app.mpr ⟨m, a, b⟩⟩
theorem wk_det : ∀ {r o o' : List Int} {w : Way}, Wk r w o → Wk r w o' → o = o'
  | r, o, o', [], h, k => by cases h; cases k; rfl
  | r, o, o', c :: w, h, k => wk_det h.2 k.2
theorem wk_re {r o : List Int} : ∀ {w : Way} {m : List Int}, Re r m → Wk m w o → Re r o
  | [], m, h, k => by cases k; exact h
  | c :: w, m, h, k => by
    obtain ⟨i, j, rfl, mg⟩ := dl_may k.1
    exact wk_re (.step h mg) k.2
/-- the least of the shortest ways -/
def Ls (r o : List Int) (w : Way) : Prop := Wk r w o ∧ ∀ w', Wk r w' o → w.length < w'.length ∨ (w.length = w'.length ∧ (w = w' ∨ wlt w w'))
theorem Ls.unique {r o : List Int} {u w : Way} (a : Ls r o u) (b : Ls r o w) : u = w := by
  rcases a.2 w b.1 with h | ⟨h, h'⟩
  · rcases b.2 u a.1 with k | ⟨k, _⟩ <;> omega
  · rcases h' with h' | h'
    · exact h'
    · rcases b.2 u a.1 with k | ⟨k, k'⟩
      · omega
      · rcases k' with k' | k'
        · exact k'.symm
        · exact (wlt_irr (wlt_trans h' k')).elim
theorem ls_self (r : List Int) : Ls r r [] := ⟨rfl, fun w' _ => by
  cases w' with
  | nil => exact .inr ⟨rfl, .inl rfl⟩
  | cons c w => exact .inl (by simp)⟩
abbrev Ent := List Int × Way
/-- all that is come to by so many deeds at the most, each by the least of its shortest ways; the last ones of it in their order -/
structure Lev (s : List Int) (n : Nat) (E W : List Ent) : Prop where
  ls : ∀ e ∈ E, Ls s e.1 e.2
  le : ∀ e ∈ E, e.2.length ≤ n
  all : ∀ o w, Wk s w o → w.length ≤ n → o ∈ E.map Prod.fst
  wE : ∀ e ∈ W, e ∈ E ∧ e.2.length = n
  allW : ∀ e ∈ E, e.2.length = n → e ∈ W
  sorted : W.Pairwise fun a b => wlt a.2 b.2
  nd : (E.map Prod.fst).Nodup
theorem Lev.start (s : List Int) : Lev s 0 [(s, [])] [(s, [])] := by
  refine ⟨fun e he => ?_, fun e he => ?_, fun o w h hl => ?_, fun e he => ?_, fun e he _ => he, by simp, by simp⟩
  · rw [List.mem_singleton] at he; subst he; exact ls_self s
  · rw [List.mem_singleton] at he; subst he; exact Nat.le_refl 0
  · cases w with
    | nil => cases h; simp
    | cons c w => simp at hl
  · rw [List.mem_singleton] at he; subst he; simp
/-- the rows by one deed more, in the order in which they are tried -/
def cnd (W : List Ent) : List Ent := W.flatMap fun e => (dl e.1).map fun c => (dd e.1 c, e.2 ++ [c])
/-- amid a level: what is tried already, what was new -/
structure Mdl (E0 C E B : List Ent) : Prop where
  eq : E = E0 ++ B
  sub : ∀ e ∈ B, e ∈ C ∧ e.1 ∉ E0.map Prod.fst
  cov : ∀ e ∈ C, e.1 ∈ E.map Prod.fst
  fst : ∀ e ∈ B, ∀ e' ∈ C, e'.1 = e.1 → e' = e ∨ wlt e.2 e'.2
  sl : B.Sublist C
  nd : (E.map Prod.fst).Nodup
theorem Mdl.start {E0 : List Ent} (nd : (E0.map Prod.fst).Nodup) : Mdl E0 [] E0 [] := ⟨by simp, (fun e he => nomatch he), (fun e he => nomatch he), (fun e he => nomatch he), List.Sublist.refl _, nd⟩
/-- one tried whose row is there already -/
theorem Mdl.old {E0 C E B : List Ent} {x : Ent} (h : Mdl E0 C E B) (lt : ∀ e ∈ C, wlt e.2 x.2) (hx : x.1 ∈ E.map Prod.fst) : Mdl E0 (C ++ [x]) E B := by
  refine ⟨h.eq, fun e he => ⟨List.mem_append_left _ (h.sub e he).1, (h.sub e he).2⟩, fun e he => ?_, fun e he e' he' hr => ?_, h.sl.trans (List.sublist_append_left _ _), h.nd⟩
  · rcases List.mem_append.mp he with z | z
    · exact h.cov e z
    · rw [List.mem_singleton] at z; rw [z]; exact hx
  · rcases List.mem_append.mp he' with z | z
    · exact h.fst e he e' z hr
    · rw [List.mem_singleton] at z
      rw [z]
      exact .inr (lt e (h.sub e he).1)
/-- one tried whose row is new -/
theorem Mdl.new {E0 C E B : List Ent} {x : Ent} (h : Mdl E0 C E B) (lt : ∀ e ∈ C, wlt e.2 x.2) (hx : x.1 ∉ E.map Prod.fst) : Mdl E0 (C ++ [x]) (E ++ [x]) (B ++ [x]) := by
  have ex : (E ++ [x]).map Prod.fst = E.map Prod.fst ++ [x.1] := by rw [List.map_append]; rfl
  refine ⟨by rw [h.eq, List.append_assoc], fun e he => ?_, fun e he => ?_, fun e he e' he' hr => ?_, List.Sublist.append h.sl (List.Sublist.refl _), ?_⟩
  · rcases List.mem_append.mp he with z | z
    · exact ⟨List.mem_append_left _ (h.sub e z).1, (h.sub e z).2⟩
    · rw [List.mem_singleton] at z
      rw [z]
      exact ⟨List.mem_append_right _ List.mem_cons_self, fun y => hx (by rw [h.eq, List.map_append]; exact List.mem_append_left _ y)⟩
  · rw [ex]
    rcases List.mem_append.mp he with z | z
    · exact List.mem_append_left _ (h.cov e z)
    · rw [List.mem_singleton] at z
      rw [z]; exact List.mem_append_right _ List.mem_cons_self
  · rcases List.mem_append.mp he with z | z
    · rcases List.mem_append.mp he' with y | y
      · exact h.fst e z e' y hr
      · rw [List.mem_singleton] at y
        rw [y]
        exact .inr (lt e (h.sub e z).1)
    · rw [List.mem_singleton] at z
      subst z
      rcases List.mem_append.mp he' with y | y
      · exact (hx (hr ▸ h.cov e' y)).elim
      · rw [List.mem_singleton] at y
        exact .inl y
  · rw [ex]
    refine List.nodup_append.mpr ⟨h.nd, by simp, fun a ha b hb z => ?_⟩
    rw [z, List.mem_singleton.mp hb] at ha
    exact hx ha
/-- the level is done -/
theorem Lev.next {s : List Int} {n : Nat} {E0 W E B : List Ent} (L : Lev s n E0 W) (M : Mdl E0 (cnd W) E B) (srt : (cnd W).Pairwise fun a b => wlt a.2 b.2) : Lev s (n + 1) E B := by
  have inC : ∀ e ∈ W, ∀ c ∈ dl e.1, (dd e.1 c, e.2 ++ [c]) ∈ cnd W := fun e he c hc => List.mem_flatMap.mpr ⟨e, he, List.mem_map_of_mem hc⟩
  have ofC : ∀ x ∈ cnd W, ∃ e ∈ W, ∃ c ∈ dl e.1, x = (dd e.1 c, e.2 ++ [c]) := fun x hx => by
    obtain ⟨e, he, hx⟩ := List.mem_flatMap.mp hx
    obtain ⟨c, hc, rfl⟩ := List.mem_map.mp hx
    exact ⟨e, he, c, hc, rfl⟩
  -- a walk of n + 1 deeds to a row that wasn't there
  have long : ∀ o w, Wk s w o → w.length = n + 1 → o ∉ E0.map Prod.fst → ∃ e ∈ W, ∃ d ∈ dl e.1, o = dd e.1 d ∧ (e.2 ++ [d] = w ∨ wlt (e.2 ++ [d]) w) := by
    intro o w hw hl ho
    obtain ⟨u, d, rfl⟩ : ∃ u d, w = u ++ [d] := ⟨w.dropLast, w.getLast (by intro z; rw [z] at hl; simp at hl), (List.dropLast_concat_getLast _).symm⟩
    rw [List.length_append, List.length_singleton] at hl
    obtain ⟨m, hu, hd, ho'⟩ := wk_app.mp hw
    have hm := L.all m u hu (by omega)
    obtain ⟨e, he, rfl⟩ := List.mem_map.mp hm
    have le := L.ls e he
    have hlen : e.2.length = n := by
      refine Classical.byContradiction fun z => ho ?_
      have := L.le e he
      refine L.all o (e.2 ++ [d]) (wk_app.mpr ⟨e.1, le.1, hd, ho'⟩) ?_
      rw [List.length_append, List.length_singleton]
      omega
    refine ⟨e, L.allW e he hlen, d, hd, ho'.symm, ?_⟩
    rcases le.2 u hu with z | ⟨z, y | y⟩
    · omega
    · rw [y]; exact .inl rfl
    · exact .inr (wlt_app _ _ z y)
  have lenB : ∀ e ∈ B, e.2.length = n + 1 := fun e he => by
    obtain ⟨f, hf, c, hc, rfl⟩ := ofC e (M.sub e he).1
    rw [List.length_append, (L.wE f hf).2]
    rfl
  have mE : ∀ e, e ∈ E ↔ e ∈ E0 ∨ e ∈ B := fun e => by rw [M.eq, List.mem_append]
  refine ⟨fun e he => ?_, fun e he => ?_, fun o w h hl => ?_, fun e he => ⟨(mE e).mpr (.inr he), lenB e he⟩, fun e he hl => ?_, srt.sublist M.sl, M.nd⟩
  · rcases (mE e).mp he with z | z
    · exact L.ls e z
    · obtain ⟨hC, hE0⟩ := M.sub e z
      have hlen := lenB e z
      obtain ⟨f, hf, c, hc, rfl⟩ := ofC e hC
      refine ⟨wk_app.mpr ⟨f.1, (L.ls f (L.wE f hf).1).1, hc, rfl⟩, fun w' hw' => ?_⟩
      have h1 : n < w'.length := by
        refine Classical.byContradiction fun y => hE0 (L.all _ w' hw' (by omega))
      by_cases h2 : w'.length = n + 1
      · refine .inr ⟨by omega, ?_⟩
        obtain ⟨g, hg, d, hd, eo, hle⟩ := long _ w' hw' h2 hE0
        have k := M.fst _ z _ (inC g hg d hd) eo.symm
        rcases k with k | k
        · have k2 := congrArg Prod.snd k
          dsimp only at k2
          rw [← k2]
          exact hle
        · dsimp only at k
          rcases hle with y | y
          · rw [← y]; exact .inr k
          · exact .inr (wlt_trans k y)
      · exact .inl (by omega)
  · rcases (mE e).mp he with z | z
    · have := L.le e z; omega
    · have := lenB e z; omega
  · by_cases ho : o ∈ E0.map Prod.fst
    · rw [M.eq, List.map_append]; exact List.mem_append_left _ ho
    · have : w.length = n + 1 := by
        refine Classical.byContradiction fun y => ho (L.all o w h (by omega))
      obtain ⟨g, hg, d, hd, eo, _⟩ := long o w h this ho
      rw [eo]
      exact M.cov _ (inC g hg d hd)
  · rcases (mE e).mp he with z | z
    · have := L.le e z; omega
    · exact z
/-- nothing is new: all is there -/
theorem Lev.done {s : List Int} {n : Nat} {E : List Ent} (L : Lev s n E []) {o : List Int} : ∀ {w : Way}, Wk s w o → o ∈ E.map Prod.fst := by
  have step : ∀ {v : Way} {m : List Int}, m ∈ E.map Prod.fst → Wk m v o → o ∈ E.map Prod.fst := by
    intro v
    induction v with
    | nil => intro m hm h; cases h; exact hm
    | cons c v ih =>
      intro m hm h
      refine ih ?_ h.2
      obtain ⟨e, he, rfl⟩ := List.mem_map.mp hm
      have hl : e.2.length ≠ n := fun z => nomatch L.allW e he z
      have := L.le e he
      exact L.all _ (e.2 ++ [c]) (wk_app.mpr ⟨e.1, (L.ls e he).1, h.1, rfl⟩) (by rw [List.length_append, List.length_singleton]; omega)
  intro w h
  exact step (L.all s [] rfl (Nat.zero_le _)) h
theorem dl_sorted (ns : List Int) : (dl ns).Pairwise clt := by
  have hs : (hold ns ns.length).Pairwise (· < ·) := by
    unfold hold
    exact List.Pairwise.map _ (fun a b hab => by omega) (List.Pairwise.filter _ List.pairwise_lt_range)
  unfold dl dlL
  generalize hold ns ns.length = us at hs
  have : ∀ (L : List Int), L.Pairwise (· < ·) → (L.flatMap (rowD ns us)).Pairwise clt := by
    intro L
    induction L with
    | nil => intro _; exact List.Pairwise.nil
    | cons a L ih =>
      intro hp
      rw [List.flatMap_cons, List.pairwise_append]
      obtain ⟨h1, h2⟩ := List.pairwise_cons.mp hp
      refine ⟨?_, ih h2, fun c hc d hd => ?_⟩
      · unfold rowD
        exact List.Pairwise.map _ (fun x y hxy => .inr ⟨rfl, hxy⟩) (hs.filter _)
      · obtain ⟨b, hb, hd⟩ := List.mem_flatMap.mp hd
        unfold rowD at hc hd
        obtain ⟨x, _, rfl⟩ := List.mem_map.mp hc
        obtain ⟨y, _, rfl⟩ := List.mem_map.mp hd
        exact .inl (h1 b hb)
  exact this us hs
theorem cnd_sorted {n : Nat} : ∀ {W : List Ent}, (∀ e ∈ W, e.2.length = n) → (W.Pairwise fun a b => wlt a.2 b.2) → (cnd W).Pairwise fun a b => wlt a.2 b.2
  | [], _, _ => List.Pairwise.nil
  | e :: W, hl, hp => by
    obtain ⟨h1, h2⟩ := List.pairwise_cons.mp hp
    unfold cnd
    rw [List.flatMap_cons, List.pairwise_append]
    refine ⟨?_, cnd_sorted (fun x hx => hl x (List.mem_cons_of_mem _ hx)) h2, fun c hc d hd => ?_⟩
    · exact List.Pairwise.map _ (fun x y hxy => wlt_last hxy) (dl_sorted e.1)
    · obtain ⟨x, _, rfl⟩ := List.mem_map.mp hc
      obtain ⟨f, hf, hd⟩ := List.mem_flatMap.mp hd
      obtain ⟨y, _, rfl⟩ := List.mem_map.mp hd
      exact wlt_app _ _ ((hl e List.mem_cons_self).trans (hl f (List.mem_cons_of_mem _ hf)).symm) (h1 f hf)
end MG
namespace MG
open PySem PySem.Spec PyProof.Rows L2
/-! ### few rows, a dict of rows -/
def encB (B : Nat) : List Int → Nat
  | [] => 0
  | x :: l => x.toNat + (B + 1) * encB B l
theorem encB_lt {B : Nat} : ∀ {l : List Int}, (∀ x ∈ l, x ≤ B) → encB B l < (B + 1) ^ l.length
  | [], _ => by unfold encB; simp
  | x :: l, h => by
    have ih := encB_lt (l := l) fun y hy => h y (List.mem_cons_of_mem _ hy)
    have hx := h x List.mem_cons_self
    unfold encB
    rw [List.length_cons, Nat.pow_succ, Nat.mul_comm ((B + 1) ^ l.length)]
    have : (B + 1) * (encB B l + 1) ≤ (B + 1) * (B + 1) ^ l.length := Nat.mul_le_mul_left _ ih
    rw [Nat.mul_add, Nat.mul_one] at this
    omega
theorem encB_inj {B : Nat} : ∀ {a b : List Int}, a.length = b.length → (∀ x ∈ a, 0 ≤ x ∧ x ≤ B) → (∀ x ∈ b, 0 ≤ x ∧ x ≤ B) → encB B a = encB B b → a = b
  | [], [], _, _, _, _ => rfl
  | [], _ :: _, h, _, _, _ => by simp at h
  | _ :: _, [], h, _, _, _ => by simp at h
  | x :: a, y :: b, hl, ha, hb, e => by
    have hx := ha x List.mem_cons_self
    have hy := hb y List.mem_cons_self
    unfold encB at e
    have h1 : x.toNat = y.toNat := by
      have := congrArg (· % (B + 1)) e
      simp only [Nat.add_mul_mod_self_left] at this
      rw [Nat.mod_eq_of_lt (by omega), Nat.mod_eq_of_lt (by omega)] at this
      exact this
    have : x = y := by omega
    subst this
    have h2 : encB B a = encB B b := Nat.eq_of_mul_eq_mul_left (show 0 < B + 1 by omega) (by omega)
    rw [encB_inj (by simpa using hl) (fun z hz => ha z (List.mem_cons_of_mem _ hz)) (fun z hz => hb z (List.mem_cons_of_mem _ hz)) h2]
theorem few_rowsB {B n : Nat} {F : List (List Int)} (nd : F.Nodup) (h : ∀ o ∈ F, o.length = n ∧ ∀ x ∈ o, 0 ≤ x ∧ x ≤ B) : F.length ≤ (B + 1) ^ n := by
  have e := few_below ((B + 1) ^ n) (F.map (encB B)) (by
    rw [List.Nodup, List.pairwise_map]
    refine List.Pairwise.imp_of_mem ?_ nd
    intro a b ha hb hne z
    exact hne (encB_inj ((h a ha).1.trans (h b hb).1.symm) (h a ha).2 (h b hb).2 z)) fun x hx => by
    obtain ⟨o, ho, rfl⟩ := List.mem_map.mp hx
    have := encB_lt (B := B) (l := o) fun y hy => ((h o ho).2 y hy).2
    rw [(h o ho).1] at this
    exact this
  rw [List.length_map] at e
  exact e
/-- a dict of rows, with any values -/
def dV : List Ent → List V → List (List Key × V)
  | e :: E, v :: vs => (kR e.1, v) :: dV E vs
  | _, _ => []
theorem dV_len : ∀ {E : List Ent} {vs : List V}, vs.length = E.length → (dV E vs).length = E.length
  | [], [], _ => rfl
  | [], _ :: _, h => by simp at h
  | _ :: _, [], h => by simp at h
  | e :: E, v :: vs, h => by
    rw [dV, List.length_cons, List.length_cons, dV_len (by simpa using h)]
theorem dV_snoc : ∀ {E : List Ent} {vs : List V} (x : Ent) (v : V), vs.length = E.length → dV (E ++ [x]) (vs ++ [v]) = dV E vs ++ [(kR x.1, v)]
  | [], [], _, _, _ => rfl
  | [], _ :: _, _, _, h => by simp at h
  | _ :: _, [], _, _, h => by simp at h
  | e :: E, u :: vs, x, v, h => by
    show (kR e.1, u) :: dV (E ++ [x]) (vs ++ [v]) = (kR e.1, u) :: (dV E vs ++ [(kR x.1, v)])
    rw [dV_snoc x v (by simpa using h)]
theorem dV_none {o : List Int} : ∀ {E : List Ent} {vs : List V}, o ∉ E.map Prod.fst → valV (dV E vs) (kR o) = none
  | [], _, _ => by unfold dV; rfl
  | _ :: _, [], _ => by unfold dV; rfl
  | e :: E, v :: vs, h => by
    rw [List.map_cons, List.mem_cons, not_or] at h
    rw [dV, valV_neg (fun z => h.1 (kR_inj z).symm)]
    exact dV_none h.2
theorem dV_some : ∀ {E : List Ent} {vs : List V} {e : Ent}, vs.length = E.length → e ∈ E → (E.map Prod.fst).Nodup → ∃ (i : Nat) (v : V), E[i]? = some e ∧ vs[i]? = some v ∧ valV (dV E vs) (kR e.1) = some v
  | [], _, _, _, h, _ => nomatch h
  | _ :: _, [], _, h, _, _ => by simp at h
  | f :: E, v :: vs, e, hl, h, nd => by
    rw [List.map_cons, List.nodup_cons] at nd
    rcases List.mem_cons.mp h with rfl | h
    · exact ⟨0, v, rfl, rfl, by rw [dV, valV_pos rfl]⟩
    · obtain ⟨i, u, h1, h2, h3⟩ := dV_some (vs := vs) (by simpa using hl) h nd.2
      refine ⟨i + 1, u, h1, h2, ?_⟩
      rw [dV, valV_neg (fun z => nd.1 (by rw [kR_inj z]; exact List.mem_map_of_mem h))]
      exact h3
/-- what is kept with a row: nothing with the first one; else the row ahead and the deed -/
def EntV (s : List Int) (E : List Ent) (H : Hp) (e : Ent) (v : V) : Prop :=
  (e = (s, []) ∧ v = .non) ∨ ∃ (f : Ent) (c : Int × Int) (t ra da : Addr), f ∈ E ∧ e.2 = f.2 ++ [c] ∧ v = .ref t ∧ H t = some (.tup [.ref ra, .ref da]) ∧ H ra = some (.tup (f.1.map V.int)) ∧ H da = some (.tup [.int c.1, .int c.2])
structure CameAt (s : List Int) (H : Hp) (D : Addr) (E : List Ent) : Prop where
  ex : ∃ vs : List V, vs.length = E.length ∧ H D = some (.dT (dV E vs)) ∧ ∀ (i : Nat) (e : Ent) (v : V), E[i]? = some e → vs[i]? = some v → EntV s E H e v
theorem EntV.mono {s : List Int} {E E' : List Ent} {H H' : Hp} {e : Ent} {v : V} (h : EntV s E H e v) (k : ∀ a xs, H a = some (.tup xs) → H' a = some (.tup xs)) (sub : ∀ f ∈ E, f ∈ E') : EntV s E' H' e v := by
  rcases h with h | ⟨f, c, t, ra, da, h1, h2, h3, h4, h5, h6⟩
  · exact .inl h
  · exact .inr ⟨f, c, t, ra, da, sub f h1, h2, h3, k _ _ h4, k _ _ h5, k _ _ h6⟩
theorem CameAt.mono {s : List Int} {E : List Ent} {H H' : Hp} {D : Addr} (h : CameAt s H D E) (k : ∀ a xs, H a = some (.tup xs) → H' a = some (.tup xs)) (hD : H' D = H D) : CameAt s H' D E := by
  obtain ⟨vs, h1, h2, h3⟩ := h.ex
  exact ⟨vs, h1, by rw [hD]; exact h2, fun i e v he hv => (h3 i e v he hv).mono k fun f hf => hf⟩
theorem CameAt.same {s : List Int} {E : List Ent} {H H' : Hp} {D : Addr} (h : CameAt s H D E) (k : Same H H') : CameAt s H' D E := by
  obtain ⟨vs, h1, h2, h3⟩ := h.ex
  exact ⟨vs, h1, k _ _ h2, fun i e v he hv => (h3 i e v he hv).mono (fun a xs z => k _ _ z) fun f hf => hf⟩
theorem CameAt.put {s : List Int} {E : List Ent} {H : Hp} {D : Addr} {vs : List V} {x : Ent} {v : V} (h1 : vs.length = E.length) (h2 : H D = some (.dT (dV E vs))) (h3 : ∀ (i : Nat) (e : Ent) (v : V), E[i]? = some e → vs[i]? = some v → EntV s E H e v) (hx : EntV s E H x v) :
    CameAt s (upd H D (.dT (dV E vs ++ [(kR x.1, v)]))) D (E ++ [x]) := by
  have k : ∀ a xs, H a = some (.tup xs) → upd H D (.dT (dV E vs ++ [(kR x.1, v)])) a = some (.tup xs) := fun a xs e => by
    rw [upd_ne (fun z => by rw [z, h2] at e; cases e)]
    exact e
  refine ⟨vs ++ [v], by rw [List.length_append, List.length_append, h1]; rfl, by rw [upd_same, dV_snoc x v h1], fun i e u he hu => ?_⟩
  have sub : ∀ f ∈ E, f ∈ E ++ [x] := fun f hf => List.mem_append_left _ hf
  by_cases hi : i < E.length
  · rw [List.getElem?_append_left hi] at he
    rw [List.getElem?_append_left (by omega)] at hu
    exact (h3 i e u he hu).mono k sub
  · rw [List.getElem?_append_right (by omega)] at he
    rw [List.getElem?_append_right (by omega), h1] at hu
    cases z : i - E.length with
    | zero =>
      rw [z] at he hu
      obtain rfl : x = e := Option.some.inj he
      obtain rfl : v = u := Option.some.inj hu
      exact hx.mono k sub
    | succ m => rw [z] at he; cases he
end MG

namespace K84
open PySem PySem.Spec PyProof.Rows L2 MG
abbrev sAll : Stmt := topS 39
abbrev nAll : List Str := ["_law_row", "_law_found", "_law_last", "_law_more", "_law_here", "_law_there"]
theorem scAll : FnScope ["_law_row", "_law_found", "_law_last", "_law_more", "_law_here", "_law_there"] ["_law_row"] (defScope sAll) := ⟨rfl, rfl, rfl, by decide +kernel, rfl, by decide +kernel, by decide +kernel⟩
section
variable {P : Program} {w : World} {K : PySem.W.Frag} {mg : Str → Option Value} {base : Heap}
def TsR (H : Hp) (ts : List Addr) (R : List (List Int)) : Prop := ts.length = R.length ∧ ∀ (i : Nat) (t : Addr) (r : List Int), ts[i]? = some t → R[i]? = some r → H t = some (.tup (r.map V.int))
theorem TsR.mono {H H' : Hp} {ts : List Addr} {R : List (List Int)} (h : TsR H ts R) (s : ∀ a xs, H a = some (.tup xs) → H' a = some (.tup xs)) : TsR H' ts R := ⟨h.1, fun i t r a b => s _ _ (h.2 i t r a b)⟩
theorem TsR.snoc {H : Hp} {ts : List Addr} {R : List (List Int)} {t : Addr} {r : List Int} (h : TsR H ts R) (e : H t = some (.tup (r.map V.int))) : TsR H (ts ++ [t]) (R ++ [r]) := ⟨by rw [List.length_append, List.length_append, h.1]; rfl, fun i t' r' a c => by
  by_cases hi : i < ts.length
  · rw [List.getElem?_append_left hi] at a
    rw [List.getElem?_append_left (by rw [← h.1]; exact hi)] at c
    exact h.2 i t' r' a c
  · rw [List.getElem?_append_right (by omega)] at a
    rw [List.getElem?_append_right (by rw [← h.1]; omega), ← h.1] at c
    match i - ts.length, a, c with
    | 0, a, c => cases a; cases c; exact e⟩
def rowP (r : List Int) : PyData := .tuple (r.map PyData.int)
theorem dp_rows {H : Hp} {ts : List Addr} {R : List (List Int)} (h : TsR H ts R) : DpAll K H (ts.map V.ref) (R.map rowP) := by
  induction ts generalizing R with
  | nil =>
    match R, h with
    | [], _ => exact .nil
    | _ :: _, h => have := h.1; simp at this
  | cons t ts ih =>
    match R, h with
    | [], h => have := h.1; simp at this
    | r :: R, h => exact .cons (.tup (SqT.of (h.2 0 t r rfl rfl)) (dpInts r)) (ih ⟨by have := h.1; simpa using this, fun i t' r' a b => h.2 (i + 1) t' r' a b⟩)
theorem lay_rows : ∀ R : List (List Int), PyData.canLayAll0 (R.map rowP) = true
  | [] => rfl
  | r :: R => by
    rw [List.map_cons, PyData.canLayAll0, lay_rows R]
    show (PyData.canLay0 (.tuple (r.map PyData.int)) && true) = true
    rw [PyData.canLay0, lay_ints]; rfl
theorem depth_rows : ∀ R : List (List Int), PyData.depthAll (R.map rowP) ≤ 1
  | [] => by decide
  | r :: R => by
    have ih := depth_rows R
    rw [List.map_cons, PyData.depthAll]
    have : PyData.depth (rowP r) = 1 := by
      show PyData.depth (.tuple (r.map PyData.int)) = 1
      rw [PyData.depth, depth_ints]
    rw [this]
    omega
theorem shaped_rows (R : List (List Int)) : SeqAt.shaped (.list (R.map rowP)) = true := by
  have h := depth_rows R
  unfold SeqAt.shaped
  rw [PyData.canLay0, lay_rows, PyData.depth]
  simp
  omega
def lenD (o : Option HO) : Nat := match o with | some (.dT kvs) => kvs.length | _ => 0
def fullL (o : Option HO) : Nat := match o with | some (.lst (_ :: _)) => 1 | _ => 0
def muB (D : Addr) (σ : List (Option V)) (G : Hp) : Nat := 2 * (13 ^ 6 - lenD (G D)) + (match σ[2]? with | some (some (V.ref l)) => fullL (G l) | _ => 0)
def spAll : Sp := fun vs H Q _ => ∃ (a : Addr) (ns : List Int), vs = [.ref a] ∧ H a = some (.tup (ns.map V.int)) ∧ (∀ n ∈ ns, 0 ≤ n) ∧ ns.length ≤ 6 ∧ ns.sum ≤ 12 ∧
  ∀ p H' (E : List (List Int × Int)), H p = none → Same H H' → H' p = some (.dT (E.map dE)) → (∀ o, o ∈ E.map Prod.fst ↔ Re ns o) → E.length ≤ 13 ^ 6 → (E.map Prod.fst).Nodup → Q (.ref p) H'
theorem ok_all {f fN : Addr} {fd fdN : FuncData} {k : Nat} (F : Fun K "_law_all_of" "_law_all_of" sAll f fd)
    (FN : Fun K "_law_next" "_law_next" sNext fN fdN) (bN : Binds K fdN ["_law_row"] []) (gN : mg "_law_next" = some (.ref fN)) (GN : FnOk P w K mg base CX0 (k + 2) fN fdN ["_law_row"] spNext) : FnOk P w K mg base CX0 (k + 3) f fd ["_law_row"] spAll := by
  refine F.ok scAll (fun vs H Q E h => ?_) (fun cdv A outer s H vs Q E hr h => ?_)
  · obtain ⟨a, ns, rfl, _⟩ := h
    rfl
  · obtain ⟨a, ns, rfl, ea, nn, hl, hS, q⟩ := h
    have hr2 := hr
    have hu : (A.deeper (envOfC "_law_all_of" (defScope sAll) s.heap.objs.size f cdv)).units + 1 < cLine := by have := hr.un; omega
    refine ⟨_, pss_cons (ps_par (i := 1) (j := 2) rfl scAll.nd rfl rfl (by decide) rfl rfl (pa_cons (pe_dispT hu (pv 0) pe_int) (pa_cons (pe_lst (pa_cons (pv 0) pa_nil)) pa_nil)) (by rfl))
      (pss_cons (ps_while PassesOwn.never (pt_cmpR (op_neD hr.units) (pv 2) (pe_lst pa_nil) (nomark _)) (pss_cons (ps_set (i := 3) scAll.nd rfl (.inl rfl) (pe_lst pa_nil))
      (pss_cons (ps_for PassesOwn.never rfl (pi_list (pv 2)) (pg_name (i := 4) scAll.nd rfl (.inl rfl)) (pss_one (ps_for PassesOwn.never rfl (pi_list (pe_call GN hr2 (by rfl) gN FN.kp bN .nil pass0 (pa_cons (pv 4) pa_nil))) (pg_name (i := 5) scAll.nd rfl (.inl rfl)) (pss_one (ps_if (pt_cmp (pc_dnotin hu (pv 5) (pv 1))) (pss_cons (ps_dput hu (pv 1) (pv 5) (pe_op op_add (pe_dget hu (pv 1) (pv 4) (fun _ _ => rfl)) pe_int) rfl)
      (pss_one (ps_expr (pe_bm PySem.F.plainAttrs_list PySem.F.slot_list_append PySem.F.type_list_append mt_append (pv 3) (pa_cons (pv 5) pa_nil))))) pss_nil)))))
      (pss_one (ps_set (i := 2) scAll.nd rfl (.inl rfl) (pv 3))))))
      (pss_one (ps_ret (pv 1)))), ?_⟩
    intro D nD
    have s1 : Same H (upd H D (.dT [])) := same_upd nD
    refine ⟨_, rfl, upd_same, a, kR ns, rfl, by rw [kR_map]; exact s1 _ _ ea, ?_⟩
    have s2 : Same H (upd (upd H D (.dT [])) D (.dT [(kR ns, V.int 0)])) := fun c o hc => by rw [upd_ne (ne_of_none hc nD)]; exact s1 c o hc
    have eD2 : upd (upd H D (.dT [])) D (.dT [(kR ns, V.int 0)]) D = some (.dT (([(ns, 0)] : List (List Int × Int)).map dE)) := upd_same
    generalize upd (upd H D (.dT [])) D (.dT [(kR ns, V.int 0)]) = H2 at s2 eD2 ⊢
    refine ⟨_, rfl, by show 1 ≤ sizeLine; decide, fun La nLa => ⟨_, _, rfl, ?_⟩⟩
    have s3 : Same H (upd H2 La (.lst [.ref a])) := s2.trans (same_upd nLa)
    have eL3 : upd H2 La (.lst [.ref a]) La = some (.lst (([a] : List Addr).map V.ref)) := upd_same
    have eD3 : upd H2 La (.lst [.ref a]) D = some (.dT (([(ns, 0)] : List (List Int × Int)).map dE)) := same_upd nLa _ _ eD2
    generalize upd H2 La (.lst [.ref a]) = H3 at s3 eL3 eD3 ⊢
    have few : ∀ {F : List (List Int)}, F.Nodup → (∀ o ∈ F, Re ns o) → F.length ≤ 13 ^ 6 := fun {F} nd hre => by
      have h1 := few_rowsB (B := 12) (n := ns.length) nd fun o ho => ⟨((hre o ho).keeps nn).1, fun x hx => ⟨((hre o ho).keeps nn).2.2 x hx, by
        have h2 := mem_le_sumG ((hre o ho).keeps nn).2.2 x hx
        have h3 := ((hre o ho).keeps nn).2.1
        omega⟩⟩
      exact Nat.le_trans h1 (Nat.pow_le_pow_right (by decide) hl)
    refine while_by (fun σ G => ∃ (E : List (List Int × Int)) (La : Addr) (ts : List Addr) (L : List (List Int)) (y3 y4 y5 : Option V), σ = [some (.ref a), some (.ref D), some (.ref La), y3, y4, y5] ∧ Same H G ∧ G D = some (.dT (E.map dE)) ∧ G La = some (.lst (ts.map V.ref)) ∧ TsR G ts L ∧
        (E.map Prod.fst).Nodup ∧ (∀ o ∈ E.map Prod.fst, Re ns o) ∧ ns ∈ E.map Prod.fst ∧ (∀ o ∈ L, o ∈ E.map Prod.fst) ∧ ∀ o ∈ E.map Prod.fst, o ∉ L → ∀ i j, MayG o i j → deed o i j ∈ E.map Prod.fst)
      (muB D)
      ⟨[(ns, 0)], La, [a], [ns], _, _, _, rfl, s3, eD3, eL3, ⟨rfl, fun i t r h1 h2 => by
        match i, h1, h2 with
        | 0, h1, h2 => cases h1; cases h2; exact s3 _ _ ea⟩, by simp, fun o ho => by rw [List.mem_singleton.mp ho]; exact .refl, List.mem_cons_self, fun o ho => ho, fun o ho hn => absurd ho hn⟩ ?_ ?_
    · rintro σ G ⟨E, La, ts, L, y3, y4, y5, rfl, sG, eD, eL, hT, nd, hre, h0, hL, hc⟩
      refine ⟨_, rfl, by show 0 ≤ sizeLine; decide, fun e ne => ?_⟩
      have se : Same G (upd G e (.lst [])) := same_upd ne
      have ge : upd G e (.lst []) e = some (.lst []) := upd_same
      generalize upd G e (HO.lst []) = G1 at se ge ⊢
      have hT1 : TsR G1 ts L := hT.mono fun c xs hc => se _ _ hc
      refine ⟨.list (L.map rowP), .list [], .lst (SqL.of (se _ _ eL)) (dp_rows hT1), .lst (SqL.of ge) .nil, shaped_rows L, rfl, _, rfl, ?_⟩
      cases L with
      | nil =>
        refine iteF ⟨_, rfl, q D G1 E nD (sG.trans se) (se _ _ eD) (fun o => ⟨fun ho => hre o ho, fun ho => re_in h0 (fun o ho i j m => hc o ho (by simp) i j m) ho⟩) (by have := few nd hre; rw [List.length_map] at this; exact this) nd⟩
      | cons l0 L0 =>
        rw [show (!PyData.eqv (.list ((l0 :: L0).map rowP)) (.list [])) = true from rfl]
        refine iteT ?_
        generalize hLL : l0 :: L0 = L at *
        have tl : 0 < ts.length := by rw [hT.1, ← hLL]; simp
        refine ⟨by show 0 ≤ sizeLine; decide, fun Mo nMo => ?_⟩
        have s1 : Same G (upd G1 Mo (.lst [])) := se.trans (same_upd nMo)
        have eM2 : upd G1 Mo (.lst []) Mo = some (.lst (([] : List Addr).map V.ref)) := upd_same
        have hMD : D ≠ Mo := ne_of_none (se _ _ eD) nMo
        have hML : La ≠ Mo := ne_of_none (se _ _ eL) nMo
        have nMH : H Mo = none := (sG.trans se).free nMo
        generalize upd G1 Mo (HO.lst []) = G2 at s1 eM2 ⊢
        have hLD : La ≠ D := fun z => by rw [z, eD] at eL; cases eL
        -- what stays
        have hEl : E.length ≤ 13 ^ 6 := by
          have := few nd hre
          rw [List.length_map] at this
          exact this
        refine ⟨_, rfl, La, rfl, ⟨_, SqL.of (s1 _ _ eL)⟩, ?_⟩
        refine for_list (K := K) (a := La) (xs := ts.map V.ref) (fun m σ G' => ∃ (E' : List (List Int × Int)) (ms : List Addr) (M : List (List Int)) (y4 y5 : Option V), σ = [some (.ref a), some (.ref D), some (.ref La), some (.ref Mo), y4, y5] ∧ Same H G' ∧ G' D = some (.dT (E'.map dE)) ∧ G' La = some (.lst (ts.map V.ref)) ∧ TsR G' ts L ∧ G' Mo = some (.lst (ms.map V.ref)) ∧ TsR G' ms M ∧ Mid ns (E.map Prod.fst) E' M ∧ ∀ x, x < m → ∀ l, L[x]? = some l → ∀ i j, MayG l i j → deed l i j ∈ E'.map Prod.fst) ?_ ?_ ?_ ?_
        · exact ⟨E, [], [], _, _, rfl, sG.trans s1, s1 _ _ eD, s1 _ _ eL, hT.mono fun c xs hc => s1 _ _ hc, eM2, ⟨rfl, fun i t r h1 _ => by cases h1⟩, ⟨nd, hre, fun o ho => ho, fun o ho => .inl ho, fun o ho => (by cases ho), by rw [List.length_map]; rfl⟩, fun x hx => absurd hx (Nat.not_lt_zero _)⟩
        · rintro m σ G' _ ⟨E', ms, M, y4, y5, rfl, sG', eD', eL', _⟩
          exact SqL.of eL'
        · rintro m x σ G' hx ⟨E', ms, M, y4, y5, rfl, sG', eD', eL', hT', eM', hTM, mid, done⟩
          rw [List.getElem?_map] at hx
          obtain ⟨t, ht, rfl⟩ := Option.map_eq_some_iff.mp hx
          have hmt : m < ts.length := (List.getElem?_eq_some_iff.mp ht).1
          have hlm : L[m]? = some (L[m]'(by rw [← hT.1]; exact hmt)) := List.getElem?_eq_getElem _
          generalize L[m]'(by rw [← hT.1]; exact hmt) = l at hlm
          have el := hT'.2 m t l ht hlm
          have hlE := mid.sub l (hL l (List.mem_of_getElem? hlm))
          have hlr := mid.re l hlE
          have hk := hlr.keeps nn
          refine ⟨_, rfl, t, l, rfl, el, hk.2.2, by omega, fun p us G3 s3' np ep ul nx nc => ?_⟩
          refine ⟨p, rfl, ⟨_, SqL.of ep⟩, ?_⟩
          have hpD : D ≠ p := ne_of_none eD' np
          have hpM : Mo ≠ p := ne_of_none eM' np
          refine for_list (K := K) (a := p) (xs := us.map V.ref) (fun b σ G' => ∃ (E' : List (List Int × Int)) (ms : List Addr) (M : List (List Int)) (y5 : Option V), σ = [some (.ref a), some (.ref D), some (.ref La), some (.ref Mo), some (.ref t), y5] ∧ Same H G' ∧ G' D = some (.dT (E'.map dE)) ∧ G' La = some (.lst (ts.map V.ref)) ∧ TsR G' ts L ∧ G' Mo = some (.lst (ms.map V.ref)) ∧ TsR G' ms M ∧ Mid ns (E.map Prod.fst) E' M ∧ (∀ x, x < m → ∀ l, L[x]? = some l → ∀ i j, MayG l i j → deed l i j ∈ E'.map Prod.fst) ∧ G' p = some (.lst (us.map V.ref)) ∧ (∀ c xs, G3 c = some (.tup xs) → G' c = some (.tup xs)) ∧ ∀ x, x < b → ∀ u, us[x]? = some u → ∀ o : List Int, G3 u = some (.tup (o.map V.int)) → o ∈ E'.map Prod.fst) ?_ ?_ ?_ ?_
          · exact ⟨E', ms, M, _, rfl, sG'.trans s3', s3' _ _ eD', s3' _ _ eL', hT'.mono fun c xs hc => s3' _ _ hc, s3' _ _ eM', hTM.mono fun c xs hc => s3' _ _ hc, mid, done, ep, fun c xs hc => hc, fun x hx => absurd hx (Nat.not_lt_zero _)⟩
          · rintro b σ G4 _ ⟨E', ms, M, y5, rfl, _, _, _, _, _, _, _, _, ep4, _⟩
            exact SqL.of ep4
          · rintro b x σ G4 hx ⟨E4, ms4, M4, y5, rfl, sG4, eD4, eL4, hT4, eM4, hTM4, mid4, done4, ep4, st4, did4⟩
            rw [List.getElem?_map] at hx
            obtain ⟨u, hu', rfl⟩ := Option.map_eq_some_iff.mp hx
            obtain ⟨i1, j1, m1, e1⟩ := nx u (List.mem_of_getElem? hu')
            have e4 := st4 _ _ e1
            have hro : Re ns (deed l i1 j1) := .step hlr m1
            generalize hoo : deed l i1 j1 = oo at e1 e4 hro
            have same1 : ∀ {o : List Int}, G3 u = some (.tup (o.map V.int)) → o = oo := fun {o} e => by
              rw [e1] at e
              injection e with e
              injection e with e
              exact (List.map_inj_right (fun x y h => by injection h) |>.mp e).symm
            refine ⟨_, rfl, _, rfl, D, _, rfl, DGet.t eD4 (k := kR oo) (by rw [kR_map]; exact e4), _, rfl, ?_⟩
            by_cases hin : oo ∈ E4.map Prod.fst
            · obtain ⟨c, hc'⟩ := valE_some hin
              rw [hc']
              refine iteF ⟨E4, ms4, M4, _, rfl, sG4, eD4, eL4, hT4, eM4, hTM4, mid4, done4, ep4, st4, fun x hx u' hu2 o ho => ?_⟩
              by_cases hxb : x = b
              · subst hxb
                rw [hu'] at hu2
                cases hu2
                rw [same1 ho]; exact hin
              · exact did4 x (by omega) u' hu2 o ho
            · rw [valE_none hin]
              refine iteT ?_
              have hl4 : E4.length ≤ 13 ^ 6 := by
                have := few mid4.nd mid4.re
                rw [List.length_map] at this
                exact this
              obtain ⟨c, hc'⟩ := valE_some (mid4.sub l (hL l (List.mem_of_getElem? hlm)))
              have el4 : G4 t = some (.tup (l.map V.int)) := hT4.2 m t l ht hlm
              refine ⟨_, rfl, _, rfl, D, .int c, rfl, by rw [← hc']; exact DGet.t eD4 (by rw [kR_map]; exact el4), _, _, rfl, rfl, _, rfl, _, rfl, D, _, rfl, DPut.t eD4 (k := kR oo) (by rw [kR_map]; exact e4) (by rw [List.length_map, sizeLine_eq]; omega), ?_⟩
              rw [putK_new _ (valE_none hin)]
              have eput : E4.map dE ++ [(kR oo, V.int (c + 1))] = (E4 ++ [(oo, c + 1)]).map dE := by rw [List.map_append]; rfl
              have ml4 : ms4.length ≤ 13 ^ 6 := by
                have := mid4.grow
                rw [hTM4.1]; omega
              refine ⟨_, rfl, .inl ⟨rfl, _, SqL.of (by rw [upd_ne hMD.symm]; exact eM4)⟩, _, rfl, Mo, _, _, rfl, rfl, by rw [upd_ne hMD.symm]; exact eM4, by rw [List.length_map, sizeLine_eq]; omega, ?_⟩
              have keepT : ∀ {c : Addr} {xs : List V} {X Y : HO}, G4 c = some (.tup xs) → upd (upd G4 D X) Mo Y c = some (.tup xs) := fun {c xs X Y} hc => by
                rw [upd_ne (fun z => by rw [z, eM4] at hc; cases hc), upd_ne (fun z => by rw [z, eD4] at hc; cases hc)]
                exact hc
              have sub1 : ∀ {o : List Int}, o ∈ E4.map Prod.fst → o ∈ (E4 ++ [(oo, c + 1)]).map Prod.fst := fun ho => by rw [List.map_append]; exact List.mem_append_left _ ho
              refine ⟨E4 ++ [(oo, c + 1)], ms4 ++ [u], M4 ++ [oo], _, rfl, fun c' o hc => ?_, ?_, ?_, hT4.mono fun c xs hc => keepT hc, ?_, (hTM4.snoc e4).mono fun c xs hc => keepT hc, mid4.put hin hro, fun x hx l' hl' i j hm => sub1 (done4 x hx l' hl' i j hm), ?_, fun c xs hc => keepT (st4 _ _ hc), fun x hx u' hu2 o ho => ?_⟩
              · rw [upd_ne (ne_of_none hc nMH), upd_ne (ne_of_none hc nD)]
                exact sG4 c' o hc
              · rw [upd_ne hMD, upd_same, eput]
              · rw [upd_ne hML, upd_ne hLD]
                exact eL4
              · rw [upd_same, List.map_append]; rfl
              · rw [upd_ne hpM.symm, upd_ne hpD.symm]
                exact ep4
              · by_cases hxb : x = b
                · subst hxb
                  rw [hu'] at hu2
                  cases hu2
                  rw [same1 ho, List.map_append]
                  exact List.mem_append_right _ List.mem_cons_self
                · exact sub1 (did4 x (by omega) u' hu2 o ho)
          · rintro σ G4 ⟨E4, ms4, M4, y5, rfl, sG4, eD4, eL4, hT4, eM4, hTM4, mid4, done4, ep4, st4, did4⟩
            refine ⟨E4, ms4, M4, _, _, rfl, sG4, eD4, eL4, hT4, eM4, hTM4, mid4, fun x hx l' hl' i j hm => ?_⟩
            by_cases hxm : x = m
            · subst hxm
              rw [hlm] at hl'
              cases hl'
              obtain ⟨u, hu1, eu⟩ := nc i j hm (by have := hm.hi; omega)
              obtain ⟨b, hb, eb⟩ := List.getElem_of_mem hu1
              exact did4 b (by rw [List.length_map]; exact hb) u (by rw [List.getElem?_eq_getElem hb, eb]) _ eu
            · exact done4 x (by omega) l' hl' i j hm
        · rintro σ G' ⟨E', ms, M, y4, y5, rfl, sG', eD', eL', hT', eM', hTM, mid, done⟩
          rw [List.length_map] at done
          refine ⟨_, rfl, ⟨E', Mo, ms, M, _, _, _, rfl, sG', eD', eM', hTM, mid.nd, mid.re, mid.sub _ h0, mid.mem, fun o ho hn i j hm => ?_⟩, ?_⟩
          · rcases mid.new o ho with z | z
            · by_cases hoL : o ∈ L
              · obtain ⟨x, hx, ex⟩ := List.getElem_of_mem hoL
                exact done x (by rw [hT.1]; exact hx) o (by rw [List.getElem?_eq_getElem hx, ex]) i j hm
              · exact mid.sub _ (hc o z hoL i j hm)
            · exact absurd z hn
          · have hE' : E'.length ≤ 13 ^ 6 := by
              have := few mid.nd mid.re
              rw [List.length_map] at this
              exact this
            have hgr := mid.grow
            rw [List.length_map] at hgr
            have m1 : ∀ z3 z4 z5, muB D [some (.ref a), some (.ref D), some (.ref La), z3, z4, z5] G = 2 * (13 ^ 6 - E.length) + 1 := fun z3 z4 z5 => by
              unfold muB
              rw [eD]
              show 2 * (13 ^ 6 - (E.map dE).length) + fullL (G La) = _
              rw [eL, List.length_map]
              match ts, tl with
              | t :: ts, _ => rfl
            have m2 : ∀ z3 z4 z5, muB D [some (.ref a), some (.ref D), some (.ref Mo), z3, z4, z5] G' ≤ 2 * (13 ^ 6 - E'.length) + (if ms.length = 0 then 0 else 1) := fun z3 z4 z5 => by
              unfold muB
              rw [eD']
              show 2 * (13 ^ 6 - (E'.map dE).length) + fullL (G' Mo) ≤ _
              rw [eM', List.length_map]
              match ms with
              | [] => exact Nat.le_refl _
              | t :: ts => exact Nat.le_refl _
            have hml := hTM.1
            refine Nat.lt_of_le_of_lt (m2 _ _ _) (Nat.lt_of_lt_of_eq ?_ (m1 _ _ _).symm)
            split <;> omega
    · rintro σ H' Q1 Q2 hq ⟨x, e1, hz, h⟩
      refine ⟨x, e1, hz, fun p np => ?_⟩
      obtain ⟨d, e, a1, a2, a3, a4, z, a5, a6⟩ := h p np
      exact ⟨d, e, a1, a2, a3, a4, z, a5, hq _ _ a6⟩
end
end K84

/-! MG: an exception caught under a name, and kept by another one behind the suite -/
namespace MG
open PySem PySem.Spec PyProof.Rows L2

/-- an exception of the class cls, without attributes, kept at a -/
def ExI (cls : Value) (a : Addr) : HO := .ext fun h => ∃ (oe : Obj) (vs : Array Value), h.get? a = some oe ∧ Zc cls none oe ∧ oe.data = .fields vs

section
variable {X : Cx} {pins : List (Addr × Obj)} {σ : L2.St} {H : Hp} {s : Shared}
/-- an object that came up behind the entry, and is nobody's, is known from now on -/
theorem known {a : Addr} {o : HO} {oe : Obj} {vs : Array Value} (I : Inv X pins σ H s) (at_ : s.heap.get? a = some oe) (record : oe.data = .fields vs) (off : H a = none)
    (late : X.s_0.heap.get? a = none) (nL : a ≠ X.env.locals) (np : ∀ p ∈ X.pn ++ pins, p.1 ≠ a) (new : ObjOk X.prog X.w (upd H a o) s.heap a o) : Inv X pins σ (upd H a o) s := by
  have elder : ∀ {b : Addr} {u : Obj}, X.s_0.heap.get? b = some u → upd H a o b = H b := fun {b u} e => upd_ne fun z => by
    rw [z, late] at e
    cases e
  have other : ∀ {b : Addr} {u : HO}, H b = some u → upd H a o b = some u := fun {b u} e => (upd_ne (ne_of_none e off)).trans e
  have notCell : ∀ {y : Str} {c : Addr}, X.env.cells.lookup y = some c → c ≠ a := fun {y c} e z => by
    obtain ⟨v, ob, ho, hd⟩ := I.cell y c e
    rw [z, at_] at ho
    rw [← Option.some.inj ho, record] at hd
    cases hd
  refine { I with
    base := ⟨I.base.keep, I.base.slot, fun b u e n x => (elder e).trans (I.base.free b u e n x), I.base.there, fun b xs q => other (I.base.tups b xs q), fun b u w q => other (I.base.frzs b u w q), fun b ps q => ?_⟩
    free := (upd_ne (Ne.symm nL)).trans I.free
    freeC := fun y c e => (upd_ne (notCell e)).trans (I.freeC y c e)
    pin := fun p hp => ?_
    hok := fun b u e => ?_ }
  · obtain ⟨more, q'⟩ := I.base.tbls b ps q
    exact ⟨more, other q'⟩
  · obtain ⟨p1, p2, p3⟩ := I.pin p hp
    exact ⟨p1, (upd_ne (np p hp)).trans p2, p3⟩
  · by_cases hb : b = a
    · subst hb
      rw [upd_same] at e
      rw [← Option.some.inj e]
      exact new
    · rw [upd_ne hb] at e
      exact (I.hok b u e).stay (fun c v _ q => q) (fun c q => other q) fun c xs q => other q

/-- an exception that the body lets out, looked at from the try: new, nobody's, and once it is on the ground the state is one of ours -/
theorem grounded {W : WX} {xe : Value → Shared → Prop} {u : Value} {s' : Shared} (ok : X.Ok) (hs : X.stack = X.env :: X.outer) (hf : X.env.frame = some X.env.locals) (hex : X.ex = [])
    (air : XE (X.tr (X.pn ++ pins) xe) W u s') :
    ∃ (a : Addr) (B : Heap) (cls : Value) (d : Option Addr) (σ' : L2.St) (H' : Hp), u = .ref a ∧ W cls d σ' H' ∧ H' a = none ∧ X.s_0.heap.get? a = none ∧ a ≠ X.env.locals ∧ a ∉ X.fs ∧ (∀ p ∈ X.pn ++ pins, p.1 ≠ a) ∧
      Sky B (X.env :: X.outer) a (Zc cls d) X.env.locals s'.heap ∧
      ∀ g, HandSPX.FlyingZ B (X.env :: X.outer) a (Zc cls d) g → s'.heap.UpToSlots g → Inv X pins σ' H' { s' with heap := g } := by
  obtain ⟨a, B, sI, pins', σ', H', cls, d, rfl, J', nb, up, sky, na, os, ag, w⟩ := air
  have sky1 : Sky B (X.env :: X.outer) a (Zc cls d) X.env.locals s'.heap := by rw [← hs]; exact sky
  have J : Inv X pins σ' H' sI := J'.ofTry ok
  have facts : B.get? a = none ∧ s'.heap.FunFrames B (X.env :: X.outer) ∧ ∃ oe vs, s'.heap.get? a = some oe ∧ oe.data = .fields vs := by
    rcases sky1 with ⟨_, n, ff, oe, vs, e, _, dd, _⟩ | ⟨_, n, ff, oe, vs, _, _, _, e, _, dd, _⟩ | ⟨_, n, ff, oe, vs, _, _, _, e, _, dd, _⟩ <;> exact ⟨n, ff, oe, vs, e, dd⟩
  obtain ⟨hB, ff, oe, vs, e, dd⟩ := facts
  have offFrames : a ∉ frs (X.env :: X.outer) := fun hm => by
    obtain ⟨_, o, eo, nf⟩ := ff.mem hm
    rw [e] at eo
    exact nf vs (by rw [← Option.some.inj eo]; exact dd)
  have notYet : sI.heap.get? a = none := by
    cases q : sI.heap.get? a with
    | none => rfl
    | some o =>
      have z := nb a o q (by rw [show (X.tr (X.pn ++ pins) xe).stack = X.env :: X.outer from hs]; exact offFrames)
      rw [hB] at z
      cases z
  refine ⟨a, B, cls, d, σ', H', rfl, w, na, ?_, fun z => offFrames ?_, fun hm => offFrames ?_, fun p hp z => ?_, sky1, fun g fl up' => J.landed nb fl.1 (up.trans up') os ag⟩
  · cases q : X.s_0.heap.get? a with
    | none => rfl
    | some o =>
      obtain ⟨o', q'⟩ := J.base.there a o q (by rw [hex]; exact List.not_mem_nil)
      rw [notYet] at q'
      cases q'
  · exact List.mem_filterMap.mpr ⟨X.env, List.mem_cons_self, by rw [hf, z]⟩
  · obtain ⟨v, hv, q⟩ := List.mem_filterMap.mp hm
    exact List.mem_filterMap.mpr ⟨v, List.mem_cons_of_mem _ hv, q⟩
  · have q := (J.pin p hp).1
    rw [z, notYet] at q
    cases q
end

/-- what is wished of an exception of the body, where the suite keeps it: it is of the clause's class; behind the suite it is known -/
def wKeep (K : PySem.W.Frag) (c : Value) (i : Nat) (ts : Addr → Value → TS) (D : Ends) : WX := fun cls d σ H =>
  d = none ∧ PySem.W.exmOne K cls c = some true ∧ ∀ a, H a = none →
    ts a cls { nx := fun σ' H' => H' a = none → D.nx (σ'.set i none) (upd H' a (ExI cls a)), rt := fun _ _ => False, bk := fun _ _ => False, ct := fun _ _ => False } (σ.set i (some (.ref a))) H

section
variable {X : Cx} {x n : Str} {c : Value} {i : Nat} {body suite : List Stmt} {b₀ : Stmt} {np pos pos' : Pos} {tb : WX → TS} {ts : Addr → Value → TS}
/-- try: body, except x as n: suite, where the suite keeps what it caught -/
theorem ps_try_keep (hs : X.stack = X.env :: X.outer) (hf : X.env.frame = some X.env.locals) (hex : X.ex = []) (hN : X.N.Nodup) (hi : X.N[i]? = some n) (hln : X.env.kindOf n = some .local) (hc : Names X x c)
    (hb : ∀ (W : WX) (pn : List (Addr × Obj)) (xe : Value → Shared → Prop), Takes (X.tr pn xe) W → PassesOwn (model X.prog X.w) X.A X.env xe → PSs (X.tr pn xe) body (tb W))
    (hsu : ∀ (a : Addr) (oe : Obj) (cls : Value) (pn : List (Addr × Obj)), Zc cls none oe → (∃ vs, oe.data = .fields vs) → PSs (X.suite a ((a, oe) :: pn)) (b₀ :: suite) (ts a cls)) :
    PS X (.Try body [.ExceptHandler (some (.Name x np)) (some n) (b₀ :: suite) pos'] [] [] pos) (fun D σ H => tb (wKeep X.K c i ts D) D σ H) := by
  refine ⟨fun pins s σ H D I h => wpAny_Try_except ?_⟩
  have ok := I.ok
  have frames : X.A.frames = some (X.env :: X.outer) := ok.frames.trans (by rw [hs])
  refine wpAny_mono ((hb (wKeep X.K c i ts D) (X.pn ++ pins) _ (fun u s' air => ?_) PassesOwn.looking).run [] s σ H D (I.toTry _) h) (fun f s1 out => ?_) fun _ _ z => z
  rotate_left
  · have same : SP X pins D f s1 := by
      cases f with
      | ret u => exact let ⟨v, σ', H', J, q⟩ := out; ⟨v, σ', H', J.ofTry ok, q⟩
      | next => exact let ⟨σ', H', J, q⟩ := out; ⟨σ', H', J.ofTry ok, q⟩
      | brk => exact let ⟨σ', H', J, q⟩ := out; ⟨σ', H', J.ofTry ok, q⟩
      | cont => exact let ⟨σ', H', J, q⟩ := out; ⟨σ', H', J.ofTry ok, q⟩
    cases f with
    | next => exact wpAny_execs_nil same
    | ret u => exact same
    | brk => exact same
    | cont => exact same
  · obtain ⟨a, B, cls, d, σ', H', rfl, ⟨rfl, matches_, go⟩, na, late, nL, nF, np', sky, ours⟩ := grounded ok hs hf hex air
    refine Sky.land Zc.steady frames hf sky fun g fl up => ?_
    have J := ours g fl up
    obtain ⟨o1, vs1, e1, z1, d1⟩ := fl.there
    have J1 := J.suite e1 d1 na nL nF
    refine wpAny_handleBy_cons (codeAny_handlers_test ?_) (fun z => nomatch z)
    have kind : PySem.W.Looks (model X.prog X.w) g (typeOf (.ref a)) cls := fun _ _ _ _ k q => wpAny_typeOf_ref (k _ _ e1) (by rw [z1.1]; exact q)
    have named : ∀ {Q E : Value → Shared → Prop}, Q c { s' with heap := g } → wpAny (model X.prog X.w) (X.A.mark (some (.ref a))) (eval (.Name x np) X.env) Q E { s' with heap := g } := by
      intro Q E q
      obtain ⟨hg, hdbg, hm | ⟨hm, hv, hnn⟩⟩ := hc
      · exact ld_glob (X := X.suite a ((a, o1) :: (X.pn ++ pins))) J1 hg hm q hdbg
      · exact ld_blt (X := X.suite a ((a, o1) :: (X.pn ++ pins))) J1 hg hm hv q hnn hdbg
    refine named ((PySem.W.exm_one J.kIn kind matches_).here (codeAny_handlers_suite_as ?_))
    refine HandSPX.lands_againZ fl fun g2 fl2 up2 => ?_
    obtain ⟨o2, vs2, e2, z2, d2⟩ := fl2.there
    have J2 := (ours g2 fl2 (up.trans up2)).suite e2 d2 na nL nF
    refine store_ok (X := X.suite a ((a, o2) :: (X.pn ++ pins))) (v := .ref a) J2 hN hi (.inl hln) rfl (fun s3 J3 => ?_) (.inr hln)
    refine wpAny_mono ((hsu a o2 cls (X.pn ++ pins) z2 ⟨_, d2⟩).run [] s3 _ H' _ J3 (go a na)) (fun f s4 out => ?_) fun _ _ z => False.elim z
    cases f with
    | ret u => exact let ⟨_, _, _, _, _, z⟩ := out; z.elim
    | brk => exact let ⟨_, _, _, z⟩ := out; z.elim
    | cont => exact let ⟨_, _, _, z⟩ := out; z.elim
    | next =>
      obtain ⟨σ4, H4, J4, want⟩ := out
      obtain ⟨e4, n4, _⟩ := J4.pin (a, o2) (List.mem_append_left _ List.mem_cons_self)
      have J5 : Inv X pins σ4 H4 s4 := J4.unsuite ok
      have J6 := known (o := ExI cls a) J5 e4 d2 n4 late nL np' ⟨⟨o2, vs2, e4, z2, d2⟩, ⟨o2, e4⟩, fun _ _ ⟨u, us, q, r⟩ k => ⟨u, us, k u q, r⟩⟩
      exact gone_ok J6 hN hi hln fun s7 J7 => ⟨_, _, J7, want n4⟩
end
end MG

/-! MG: the end of a law whose defs make lambdas: the tables of code objects are known from the start on. -/
namespace MG
open PySem PySem.Spec PyProof.Rows L2 LamX
abbrev tabO : Obj := { cls := .none, data := .fields #[] }
/-- known at the start: the tables, and the script where it is no constant -/
def startH (cs : List (Addr × Addr)) (a : Addr) (script : Option HO) : Hp := fun b => if b ∈ cs.map Prod.snd then some (.tbl #[]) else if b = a then script else none
theorem startH_tab {cs : List (Addr × Addr)} {a : Addr} {script : Option HO} {p : Addr × Addr} (h : p ∈ cs) : startH cs a script p.2 = some (.tbl #[]) := if_pos (List.mem_map_of_mem h)
theorem startH_some {cs : List (Addr × Addr)} {a b : Addr} {script : Option HO} {u : HO} (h : startH cs a script b = some u) : ((∃ p ∈ cs, p.2 = b) ∧ u = .tbl #[]) ∨ (b = a ∧ script = some u) := by
  unfold startH at h
  split at h
  · next hb => exact .inl ⟨List.mem_map.mp hb, (Option.some.inj h).symm⟩
  · split at h
    · next hb => exact .inr ⟨hb, h⟩
    · cases h
theorem lawGT {P : Program} {w : World} {K : PySem.W.Frag} {mg mb : Str → Option Value} {k : Nat} {fa a : Addr} {cs : List (Addr × Addr)} {fd : FuncData} {x : Str}
    {sp : Sp} {s₁ : Shared} {vs : List Value} {ns : List Int}
    (KX : K.In s₁.heap) (hns : s₁.heap.Ns mainGlobals mg) (hb : s₁.heap.Ns builtinsNs mb)
    (hbb : ∀ x : Str, x ≠ "__name__" → mb x = bootBuiltins x) (hlim : s₁.heap.NoLimit) (hsys : SysD s₁.heap) (hg : s₁.gens = #[])
    (tabs : ∀ p ∈ cs, s₁.heap.get? p.2 = some tabO) (free : ∀ p ∈ cs, K.lookup p.2 = none) (codes : ∀ p ∈ cs, PySem.W.CodeHd s₁.heap p.1 p.2)
    (main : ∃ (bm : Addr) (ob : Obj), mg "__builtins__" = some (.ref bm) ∧ bm ≠ builtinsNs ∧ s₁.heap.get? bm = some ob ∧ ob.cls = .type "module" ∧ ob.dict = some builtinsNs ∧ ob.data = .plain)
    (ha : s₁.heap.get? a = some { cls := .type "list", data := .seq vs.toArray }) (hi : IntsAre vs ns)
    (hl : ns.length ≤ sizeLine) (hr : Room k callerA)
    (F : ∀ base : Heap, K.In base → base.Ns mainGlobals mg → SysD base → (∀ p ∈ cs, TabB base mg p.1 p.2) → FnG P w K mg base k fa fd [x] sp)
    (hbind : ∀ (s : Shared) (u : Value), BindsTo s fd ⟨[u], []⟩ [(x, u)])
    (hsp : ∀ H : Hp, (∀ p ∈ cs, H p.2 = some (.tbl #[])) → SqL K H a (ns.map V.int) → sp [.ref a] H (fun v _ => v = .bl true) fun _ _ _ => False) :
    codeAny (model P w) callerA (.call (.ref fa) ⟨[.ref a], []⟩)
      (fun r s' => r = .ok (.ret (.bool true)) ∧ OldK s₁.heap s'.heap ∧ s'.os = s₁.os ∧ AllBare s'.gens) s₁ := by
  have script : ∃ sc : Option HO, (∀ u, sc = some u → K.lookup a = none ∧ u = .frz { cls := .type "list", data := .seq vs.toArray } (.lst (ns.map V.int))) ∧ SqL K (startH cs a sc) a (ns.map V.int) := by
    cases look : K.lookup a with
    | some o =>
      have e := KX a o look
      rw [ha] at e
      obtain rfl := Option.some.inj e
      exact ⟨none, (fun u z => nomatch z), .inr ⟨_, vs.toArray, _, look, rfl, rfl, rfl, by rw [List.size_toArray, hi.length]; exact hl, by simpa using vals_ints hi⟩⟩
    | none =>
      refine ⟨some (.frz { cls := .type "list", data := .seq vs.toArray } (.lst (ns.map V.int))), fun u z => ⟨rfl, (Option.some.inj z).symm⟩, .inl (.inr ⟨({ cls := .type "list", data := .seq vs.toArray } : Obj), ?_⟩)⟩
      have off : a ∉ cs.map Prod.snd := by
        intro z
        obtain ⟨p, hp, e⟩ := List.mem_map.mp z
        have q := tabs p hp
        rw [e, ha] at q
        exact nomatch (show Data.seq vs.toArray _ = Data.fields #[] from congrArg Obj.data (Option.some.inj q))
      unfold startH
      rw [if_neg off, if_pos rfl]
  obtain ⟨sc, known, sq⟩ := script
  have atTab : ∀ p ∈ cs, startH cs a sc p.2 = some (.tbl #[]) := fun p hp => startH_tab hp
  generalize hH : startH cs a sc = H at sq atTab
  have what : ∀ {b : Addr} {u : HO}, H b = some u → ((∃ p ∈ cs, p.2 = b) ∧ u = .tbl #[]) ∨ (b = a ∧ K.lookup a = none ∧ u = .frz { cls := .type "list", data := .seq vs.toArray } (.lst (ns.map V.int))) := by
    intro b u h
    rw [← hH] at h
    rcases startH_some h with z | ⟨e, z⟩
    · exact .inl z
    · exact .inr ⟨e, known u z⟩
  have ok : HOk P w H s₁.heap := by
    intro b u h
    rcases what h with ⟨⟨p, hp, rfl⟩, rfl⟩ | ⟨rfl, _, rfl⟩
    · exact tabs p hp
    · exact ⟨ha, by rw [List.length_map]; exact hl, vs, _, vals_ints hi, ha⟩
  -- all that is neither a list nor an empty table is in sight
  have seen : ∀ {b : Addr} {o : Obj}, s₁.heap.get? b = some o → (∀ xs n, o.data ≠ .seq xs n) → o.data ≠ .fields #[] → (hidT s₁.heap H).get? b = some o := by
    intro b o e d1 d2
    refine hidT_get e ?_
    cases q : H b with
    | none => rfl
    | some u =>
      rcases what q with ⟨⟨p, hp, rfl⟩, _⟩ | ⟨rfl, _⟩
      · rw [tabs p hp] at e
        exact absurd (by rw [← Option.some.inj e]) d2
      · rw [ha] at e
        exact absurd (by rw [← Option.some.inj e]) (d1 vs.toArray _)
  have names : ∀ {b : Addr} {m : Str → Option Value}, s₁.heap.Ns b m → (hidT s₁.heap H).Ns b m := by
    rintro b m ⟨o, es, ep, e, d, r⟩
    exact ⟨o, es, ep, seen e (fun xs n z => nomatch (d.symm.trans z)) (fun z => nomatch (d.symm.trans z)), d, r⟩
  have kIn : K.In (hidT s₁.heap H) := by
    intro b o look
    refine hidT_get (KX b o look) ?_
    cases q : H b with
    | none => rfl
    | some u =>
      rcases what q with ⟨⟨p, hp, rfl⟩, _⟩ | ⟨rfl, z, _⟩
      · rw [free p hp] at look; cases look
      · rw [z] at look; cases look
  have makers : ∀ p ∈ cs, TabB (hidT s₁.heap H) mg p.1 p.2 := by
    intro p hp
    refine ⟨?code, ?bm, ?gP⟩
    case code =>
      obtain ⟨o, us, file, tf, flags, tg, inF, text, tt, e, c, d, rest⟩ := codes p hp
      refine ⟨o, us, file, tf, flags, tg, inF, text, tt, seen e (fun xs n z => nomatch (d.symm.trans z)) (fun z => ?_), c, d, rest⟩
      have := Data.fields.inj (d.symm.trans z)
      subst this
      exact nomatch rest.1
    case bm =>
      obtain ⟨bm, ob, b1, b2, b3, b4, b5, b6⟩ := main
      refine ⟨bm, ob, b1, b2, fun z => ?_, fun z => ?_, seen b3 (fun xs n z => nomatch (b6.symm.trans z)) (fun z => nomatch (b6.symm.trans z)), b4, b5, b6⟩
      · obtain ⟨o, es, ep, e, d, _⟩ := hns
        rw [← z, b3] at e
        exact nomatch (b6.symm.trans ((congrArg Obj.data (Option.some.inj e)).trans d))
      · have e := tabs p hp
        rw [← z, b3] at e
        exact nomatch (b6.symm.trans (congrArg Obj.data (Option.some.inj e)))
    case gP =>
      intro z
      obtain ⟨o, es, ep, e, d, _⟩ := hns
      rw [z, tabs p hp] at e
      exact nomatch ((congrArg Obj.data (Option.some.inj e)).trans d)
  have modl : Mod K mg (hidT s₁.heap H) := by
    obtain ⟨mc, l1, l2⟩ := hlim
    exact ⟨kIn, names hns, ⟨mb, names hb, hbb⟩, ⟨mc, names l1, l2⟩⟩
  have e0 : Env0 P w K mg (hidT s₁.heap H) callerA [] s₁ H :=
    { frames := rfl, mod := modl, bs := fun b o q => of_hidT q, bsz := Nat.le_of_eq (hidT_size _ _), funs := trivial
      frf := fun b hb => absurd (show b ∈ ([] : List Addr) from hb) List.not_mem_nil, hok := ok, bare := .of_eq hg }
  have sysD : SysD (hidT s₁.heap H) := let ⟨mm, q⟩ := hsys; ⟨mm, names q⟩
  refine codeAny_mono ((F _ kIn (names hns) sysD makers).run callerA [] s₁ H ⟨[.ref a], []⟩ [.ref a] [.ref a] _ _ rfl hr e0 (hbind s₁ (.ref a)) (.cons rfl .nil) (hsp H atTab sq)) ?_
  intro r s' out
  match r, out with
  | .ok (.ret u), out =>
    obtain ⟨v, H', hos, hbare, un, ok', rel, rfl⟩ := out
    obtain rfl : u = Value.bool true := rel
    have grown : ∀ p ∈ cs, ∃ more : Array Value, s'.heap.get? p.2 = some { cls := .none, data := .fields more } := by
      intro p hp
      obtain ⟨more, q⟩ := un.tbls p.2 #[] (atTab p hp)
      exact ⟨_, ok' p.2 _ q⟩
    have kept : ∀ {b : Addr} {o : Obj}, (¬ ∃ p ∈ cs, p.2 = b) → s₁.heap.get? b = some o → s'.heap.get? b = some o := by
      intro b o nb e
      cases q : H b with
      | none => exact un.keep b o e q (fun z => absurd (show b ∈ ([] : List Addr) from z) List.not_mem_nil) List.not_mem_nil
      | some u =>
        rcases what q with ⟨z, _⟩ | ⟨_, _, rfl⟩
        · exact absurd z nb
        · have now := (ok' b _ (un.frzs b _ _ q)).1
          have then_ := (ok b _ q).1
          rw [then_] at e
          rw [now]
          exact e
    refine ⟨rfl, ⟨fun b o e => ?_, fun b o e => ?_⟩, hos, hbare⟩
    · by_cases z : ∃ p ∈ cs, p.2 = b
      · obtain ⟨p, hp, rfl⟩ := z
        obtain ⟨more, q⟩ := grown p hp
        have t := tabs p hp
        rw [t] at e
        obtain rfl := Option.some.inj e
        exact .inr (.inl ⟨((codes p hp).tab t).isCodeTable, rfl, #[], more, rfl, by rw [Array.empty_append]; exact q⟩)
      · exact .inl (kept z e)
    · by_cases z : ∃ p ∈ cs, p.2 = b
      · obtain ⟨p, hp, rfl⟩ := z
        obtain ⟨more, q⟩ := grown p hp
        exact ⟨_, q⟩
      · exact ⟨o, kept z e⟩
/-- the walk of a law whose defs make lambdas -/
theorem walkGT {l : PySem.W.OpenLaw} {n k : Nat} {q : Program} {loose : List Str} {XP : (Str → Option Value) → Heap → Prop}
    {YP : World → Heap → Prop} {d : DefRec} {K : Params → PySem.W.Frag} {x : Str}
    (hn : l.most = some n) (hn2 : n ≤ sizeLine) (hdf : d.params.defaults = []) (hr : Room k callerA) (hq : importsNone q = true)
    (hY : ∀ (w : World) (h : Heap), YP w h → (K w.params).In h)
    (F : ∀ (w : World) (mg : Str → Option Value) (fa : Addr) (h : Heap), YP w h → (K w.params).In h → h.Ns mainGlobals mg → mg d.name = some (.ref fa) →
      ∃ (fd : FuncData) (cs : List (Addr × Addr)) (sp : Sp), (∀ p ∈ cs, h.get? p.2 = some tabO) ∧ (∀ p ∈ cs, (K w.params).lookup p.2 = none) ∧ (∀ p ∈ cs, PySem.W.CodeHd h p.1 p.2) ∧
        (∀ (s : Shared) (u : Value), BindsTo s fd ⟨[u], []⟩ [(x, u)]) ∧
        (∀ (H : Hp) (a : Addr) (ns : List Int), ns.length ≤ n → (∀ p ∈ cs, H p.2 = some (.tbl #[])) → SqL (K w.params) H a (ns.map V.int) → sp [.ref a] H (fun v _ => v = .bl true) fun _ _ _ => False) ∧
        ∀ base : Heap, (K w.params).In base → base.Ns mainGlobals mg → SysD base → (∀ p ∈ cs, TabB base mg p.1 p.2) → FnG l.prog w (K w.params) mg base k fa fd [x] sp) :
    PySem.W.WalkO q loose XP YP l.row.toRowW d [] (fun f vs => PySem.call f vs) := by
  refine Att.attach_call hn hdf ?_
  intro w s₀ s₁ mg mb fa o pm cd doc a vs ns G Y _ _ _ hmg hobj hints hlen hg
  have KX := hY w _ Y
  obtain ⟨fd, cs, sp, t1, t2, t3, hbd, hsp, hF⟩ := F w mg fa _ Y KX G.T.g hmg
  exact lawGT KX G.T.g G.T.b G.T.builtins G.T.nolimit (let ⟨mm, q, _⟩ := (G.T.seer hq).mods; ⟨mm, q⟩) hg t1 t2 t3 G.T.bmain hobj hints (Nat.le_trans hlen hn2) hr hF hbd
    (fun H hT hS => hsp H a ns hlen hT hS)
end MG

/-! MG: sorted(t, key=lambda p: ..) of a tuple of whole numbers; the lambda is held as a def within a def that has no rows. -/
namespace MG
open PySem PySem.Spec PyProof.Rows L2 LamX NdefX

abbrev lamOf (X : Cx) (params : Arguments) (scope : Scope) (c : Addr) : NF :=
  { name := "<lambda>", qual := X.env.qual ++ "<lambda>", params := params, body := [], scope := scope,
    cl := cloFrom X.env.cells scope.names [], c := c }
abbrev lamObj (X : Cx) (params : Arguments) (body : Expr) (scope : Scope) (pm : Value) (c : Addr) (ct : Value) : Obj :=
  PySem.W.kla_obj "<lambda>" (X.env.qual ++ "<lambda>") params body scope (cloFrom X.env.cells scope.names []) pm c ct
abbrev lamCtx (X : Cx) (N : List Str) (params : Arguments) (scope : Scope) (f c : Addr) (A : Around) (s : Shared) (H : Hp) : Cx :=
  ncx CX0 X.prog X.w X.K X.mg X.base N (lamOf X params scope c) f A X.stack s H (fun _ _ _ => False)

section one
variable {X : Cx} {pins : List (Addr × Obj)} {σ : L2.St} {H : Hp} {s : Shared} {A : Around}

/-- the lambda asked of one value -/
theorem lam_value {N fr : List Str} {js : List Nat} {p : Str} {f c : Addr} {k : Nat} {params : Arguments} {body : Expr}
    {scope : Scope} {pm ct u : Value} {v : V} {tb : TE} {Q : VK} (I : Inv X pins σ H s) (room : Room (k + 1) A)
    (env : Env0 X.prog X.w X.K X.mg X.base A X.stack s H) (S : NScope N [p] fr scope)
    (cap : Caps X (cloFrom X.env.cells scope.names []) fr js)
    (obj : s.heap.get? f = some (lamObj X params body scope pm c ct))
    (cod : H c = some (CodeO c (X.env.qual ++ "<lambda>")))
    (bnd : bindArgs (PySem.W.kla_fn "<lambda>" (X.env.qual ++ "<lambda>") params body scope
      (cloFrom X.env.cells scope.names []) pm (.ref c) ct) ⟨[u], []⟩ = pure [(p, u)])
    (rel : RelV v u)
    (bod : Room k (A.deeper (envF (lamOf X params scope c) f s.heap.objs.size)) → PE (lamCtx X N params scope f c A s H) body tb)
    (want : tb (startF N [v] (js.map (slotAt σ))) H Q) :
    wpAny (model X.prog X.w) A (call (.ref f) [u]) (EP X pins σ Q) (fun _ _ => False) s := by
  refine wpAny_call (codeAny_mono (PySem.W.kla_callFunE (R := CR CX0 X.stack X.prog X.w H s Q fun _ _ _ => False)
    room.depth obj rfl S.co S.gen rfl (codeO_at I.hok cod) ?goes) ?ends)
  case goes =>
    rw [bnd]
    refine wpAny_pure (wpAny_newFunctionEnv S.nocell ?loc ?fram S.kind)
    case loc =>
      intro y hy
      obtain rfl := List.mem_singleton.mp hy
      exact S.par p (List.mem_singleton.mpr rfl)
    case fram =>
      intro g space but
      have grows : ∀ b o, s.heap.get? b = some o → g.get? b = some o := by
        intro b o there
        refine but.extBut b o ?_ (Heap.get?_push_of_some _ there)
        exact Nat.ne_of_lt (Heap.lt_size there)
      refine ⟨I.nolimit.fresh _ but, PySem.W.kla_codeExpr ?_⟩
      have J := inv_startN (CX := CX0) (F := lamOf X params scope c) (f := f) (E := fun _ _ _ => False)
        (vs := [v]) (us := [u]) (tk := s.toks + 1) S room.hd env rfl (.cons rel .nil) (cells_of I cap) space grows
      refine wpAny_mono ((bod (room.deeper _)).run [] _ _ H Q J want) ?_ (fun _ _ z => z)
      rintro r s' ⟨x, H', K', rr, q⟩
      exact ⟨x, H', K'.os, K'.bare, K'.base, K'.hok, rr, q⟩
  case ends =>
    intro r s' out
    match r, out with
    | .ok (.ret r'), out => exact I.after out
end one
end MG

/-! MG: objects of a built-in's own that are pinned, changed, and at last known to the reading. -/
namespace MG
open PySem PySem.Spec PyProof.Rows L2

section pin
variable {X : Cx} {pins : List (Addr × Obj)} {σ : L2.St} {H : Hp} {s : Shared}
theorem top_pin {q : Addr × Obj} (I : Inv X (q :: pins) σ H s) :
    s.heap.get? q.1 = some q.2 ∧ H q.1 = none ∧ q.1 ≠ X.env.locals ∧ q.1 ∉ X.fs ∧ ∀ v, q.2.data ≠ .cell v :=
  I.pin q (List.mem_append_right X.pn (List.mem_cons_self ..))
theorem off_pin {q : Addr × Obj} (I : Inv X (q :: pins) σ H s) : Inv X pins σ H s :=
  I.pins_of fun r hr => I.pin r (List.mem_append_right X.pn (List.mem_cons_of_mem q hr))
/-- no captured name's cell is a pinned object -/
theorem not_cell {q : Addr × Obj} (I : Inv X (q :: pins) σ H s) : ∀ x c, X.env.cells.lookup x = some c → c ≠ q.1 := by
  intro x c look same
  obtain ⟨v, o, at_, cel⟩ := I.cell x c look
  have known := top_pin I
  rw [same, known.1] at at_
  exact known.2.2.2.2 v (by rw [Option.some.inj at_]; exact cel)
/-- a new object, pinned -/
theorem new_pin {o : Obj} (I : Inv X pins σ H s) (nc : ∀ v, o.data ≠ .cell v) (live : o.isFreed = false) :
    Inv X ((s.heap.objs.size, o) :: pins) σ H { s with heap := s.heap.push o } := by
  have J := I.kept (t' := s.toks) (h' := s.heap.push o) fun b u there => Heap.get?_push_of_some _ there
  refine J.pins_of fun r hr => ?_
  cases hr with
  | head => exact ⟨Heap.get?_push_size _ live, I.hok.fresh (Nat.le_refl _), Nat.ne_of_gt I.lt, I.nofs (Nat.le_refl _), nc⟩
  | tail _ hr => exact J.pin r (List.mem_append_right X.pn hr)
/-- a pinned object of ours is changed -/
theorem re_pin {it : Addr} {o o' : Obj} {g : Heap} (I : Inv X ((it, o) :: pins) σ H s) (ours : X.s_0.heap.objs.size ≤ it)
    (apart : ∀ r ∈ X.pn ++ pins, r.1 ≠ it) (off : ∀ b u, b ≠ it → s.heap.get? b = some u → g.get? b = some u)
    (put : g.get? it = some o') (nc : ∀ v, o'.data ≠ .cell v) : Inv X ((it, o') :: pins) σ H { s with heap := g } := by
  have known := top_pin I
  have J := (off_pin I).turned (t' := s.toks) off known.2.1 known.2.2.1 (Or.inr ours) (not_cell I) apart
  refine J.pins_of fun r hr => ?_
  cases hr with
  | head => exact ⟨put, known.2.1, known.2.2.1, known.2.2.2.1, nc⟩
  | tail _ hr => exact J.pin r (List.mem_append_right X.pn hr)
/-- two pinned objects of ours: the second is let go, the first is a list from now on -/
theorem lay_pin {a d : Addr} {oa od : Obj} {g : Heap} {tk : Nat} {xs : List V} {us : List Value} {n : Nat}
    (I : Inv X ((d, od) :: (a, oa) :: pins) σ H s) (oursA : X.s_0.heap.objs.size ≤ a) (oursD : X.s_0.heap.objs.size ≤ d)
    (apartA : ∀ r ∈ X.pn ++ pins, r.1 ≠ a) (apartD : ∀ r ∈ X.pn ++ pins, r.1 ≠ d)
    (off : ∀ b u, b ≠ a → b ≠ d → s.heap.get? b = some u → g.get? b = some u)
    (put : g.get? a = some (seqObj "list" us.toArray n)) (fits : xs.length ≤ sizeLine) (rel : Vals xs us) :
    Inv X pins σ (upd H a (.lst xs)) { s with heap := g, toks := tk } := by
  have kd := top_pin I
  have ka := top_pin (off_pin I)
  have base := off_pin (off_pin I)
  have neA : ∀ b u, H b = some u → b ≠ a := fun b u hb e => nomatch (show (none : Option HO) = some u from (by rw [← hb, e]; exact ka.2.1.symm))
  have neD : ∀ b u, H b = some u → b ≠ d := fun b u hb e => nomatch (show (none : Option HO) = some u from (by rw [← hb, e]; exact kd.2.1.symm))
  have old : ∀ b u, H b = some u → upd H a (.lst xs) b = some u := fun b u hb => (upd_ne (neA b u hb)).trans hb
  have out : ∀ b, b ∉ [a, d] → b ≠ a ∧ b ≠ d := fun b hb =>
    ⟨fun e => hb (e ▸ List.mem_cons_self ..), fun e => hb (e ▸ List.mem_cons_of_mem _ (List.mem_cons_self ..))⟩
  refine base.step (g' := s.gens) (d' := s.drawn) (ch := [a, d]) ?free ?keep ?slot ?none ?there (fun b ys hb => old b _ hb)
    (fun b o u hb => old b _ hb) (fun b ps hb => ⟨#[], (old b _ hb).trans (by rw [Array.append_empty])⟩) ?space ?held base.bare
  case free =>
    intro b hb
    cases hb with
    | head => exact ⟨Or.inr oursA, ka.2.2.1, not_cell (off_pin I), apartA⟩
    | tail _ hb =>
      obtain rfl := List.mem_singleton.mp hb
      exact ⟨Or.inr oursD, kd.2.2.1, not_cell I, apartD⟩
  case keep => exact fun b o _ _ hb there _ => off b o (out b hb).1 (out b hb).2 there
  case slot => exact fun b o _ _ hb there _ => ⟨o.slots, off b o (out b hb).1 (out b hb).2 there⟩
  case none => exact fun b o hb _ free => (upd_ne (out b hb).1).trans free
  case there => exact fun b o hb there => ⟨o, off b o (out b hb).1 (out b hb).2 there⟩
  case space =>
    rintro m ⟨o, es, ep, at_, rest⟩
    exact ⟨o, es, ep, off _ o ka.2.2.1.symm kd.2.2.1.symm at_, rest⟩
  case held =>
    intro b u hb
    by_cases same : b = a
    · subst same
      rw [upd_same] at hb
      obtain rfl := Option.some.inj hb
      exact ⟨fits, us, n, rel, put⟩
    · rw [upd_ne same] at hb
      refine (base.hok b u hb).stay (fun c v hc there => ?_) (fun c hc => old c _ hc) (fun c ys hc => old c _ hc)
      cases hc with
      | inl e => exact off c v (e ▸ same) (e ▸ neD b u hb) there
      | inr e => exact off c v (neA c _ e) (neD c _ e) there
end pin

/-- sorted of a tuple is the sort of a new list -/
theorem sort_tuple {prog : Program} {w : World} {A : Around} {E : Value → Shared → Prop} {s : Shared} {l : Addr} {us : List Value}
    {kw : List (Str × Value)} {Q : Value → Shared → Prop} (tup : IsTup s.heap l us.toArray) (fits : us.length ≤ sizeLine)
    (args : argsOk "sorted" ⟨[.ref l], kw⟩) (args2 : ∀ x, argsOk "list.sort" ⟨[.ref x], kw⟩)
    (sort : ∀ g : Heap, (∀ b o, s.heap.get? b = some o → g.get? b = some o) → ∀ E' : Value → Shared → Prop,
      wpAny (model prog w) A.in1.in1 (Builtin.«list.sort» ⟨[.ref g.objs.size], kw⟩)
        (fun r s' => r = .done (.ret .none) ∧ Q (.ref g.objs.size) s') E' { s with heap := g.push (seqObj "list" us.toArray 0) }) :
    wpAny (model prog w) A (call (.builtin "sorted") [.ref l] kw) Q E s := by
  obtain ⟨o, at_, cls, n, dat⟩ := tup
  refine call_function_entry_kw kind_sorted plain_sorted entry_sorted args (?_ : wpAny _ _ (Builtin.«sorted» _) _ _ _)
  unfold Builtin.«sorted»
  refine wpAny_bind (m := checkCount _ _ _ _) (wpAny_pure (wpAny_bind (wpAny_collect_seq l (Or.inr rfl) at_ cls dat ?_ (by rw [List.size_toArray]; exact fits))))
  intro g grows
  rw [show us.toArray.toList = us from rfl]
  refine wpAny_bind (wpAny_newList (wpAny_bind (wpAny_holding (wpAny_call_entry_kw slot_list_sort ⟨_, Heap.get?_push_size g rfl, rfl⟩ entry_list_sort (wpAny_mono (sort g grows _) ?_ fun _ _ z => z) (args2 _)))) fits)
  rintro r s' ⟨rfl, q⟩
  exact ⟨_, rfl, wpAny_pure ⟨_, rfl, q⟩⟩
end MG

/-! MG: a list sorted by keys that a function of ours tells. -/
namespace MG
open PySem PySem.Spec PyProof.Rows L2 LamX NdefX
open PySem.W (EachIs)

/-- the numbers, sorted by g, alike ones as they stood -/
def srt (g : Int → Int) (ns : List Int) : List Int := ns.mergeSort fun x y => decide (g x ≤ g y)
def IsI (u : Value) (n : Int) : Prop := RelV (.int n) u
theorem is_of {us : List Value} : ∀ {ns : List Int}, Vals (ns.map V.int) us → EachIs IsI us ns := by
  induction us with
  | nil =>
    intro ns h
    cases ns with
    | nil => exact .nil
    | cons n ns => exact nomatch h
  | cons u us ih =>
    intro ns h
    cases ns with
    | nil => exact nomatch h
    | cons n ns =>
      cases h with
      | cons a b => exact .cons a (ih b)
theorem is_to {us : List Value} : ∀ {ns : List Int}, EachIs IsI us ns → Vals (ns.map V.int) us := by
  induction us with
  | nil =>
    intro ns h
    cases h
    exact .nil
  | cons u us ih =>
    intro ns h
    cases h with
    | cons a b => exact .cons a (ih b)
theorem is_at {us : List Value} {ns : List Int} (h : EachIs IsI us ns) : ∀ {i : Nat} {u : Value}, us[i]? = some u → ∃ n, ns[i]? = some n ∧ IsI u n := by
  induction h with
  | nil =>
    intro i u e
    rw [List.getElem?_nil] at e
    exact nomatch e
  | cons a _ ih =>
    intro i u e
    match i, e with
    | 0, e =>
      rw [List.getElem?_cons_zero] at e
      exact ⟨_, rfl, Option.some.inj e ▸ a⟩
    | i + 1, e =>
      rw [List.getElem?_cons_succ] at e ⊢
      exact ih e

section
variable {X : Cx} {pins : List (Addr × Obj)} {σ : L2.St} {H : Hp} {A : Around} {E : Value → Shared → Prop} {P : PySem.Fin → Shared → Prop}
abbrev lstO (xs : Array Value) (n : Nat) : Obj := seqObj "list" xs n
/-- what f tells of n is g n, whatever of ours is pinned, and nothing changes -/
def Tells (X : Cx) (A : Around) (σ : L2.St) (H : Hp) (f : Addr × Obj) (g : Int → Int) (ns : List Int) : Prop :=
  ∀ n ∈ ns, ∀ (u : Value) (ps : List (Addr × Obj)) (s : Shared), IsI u n → f ∈ ps → Inv X ps σ H s →
    wpAny (model X.prog X.w) A (call (.ref f.1) [u]) (EP X ps σ fun v H' => H' = H ∧ v = .int (g n)) (fun _ _ => False) s
/-- the keys are asked, one behind the other, and kept in the list at d; then the items are sorted by them, into a -/
theorem by_keys {s : Shared} {a d : Addr} {f : Addr × Obj} {us : List Value} {ns : List Int} {g : Int → Int} {e1 : Nat} (items : EachIs IsI us ns)
    (I : Inv X ((d, lstO #[] 0) :: (a, lstO #[] e1) :: f :: pins) σ H s) (ne : d ≠ a) (oursA : X.s_0.heap.objs.size ≤ a) (oursD : X.s_0.heap.objs.size ≤ d)
    (apartA : ∀ r ∈ X.pn ++ (f :: pins), r.1 ≠ a) (apartD : ∀ r ∈ X.pn ++ (f :: pins), r.1 ≠ d) (fits : us.length ≤ sizeLine) (units : A.units < cLine)
    (tells : Tells X A σ H f g ns) (end_ : ∀ s', Inv X pins σ (upd H a (.lst ((srt g ns).map V.int))) s' → P (.done (.ret .none)) s') :
    wpAny (model X.prog X.w) A (ksk_rest a (.ref f.1) false us.toArray e1 (.ref d)) P E s := by
  have lenI : us.length = ns.length := items.length
  have apartD2 : ∀ r ∈ X.pn ++ ((a, lstO #[] e1) :: f :: pins), r.1 ≠ d := by
    intro r hr
    rcases List.mem_append.mp hr with z | z
    · exact apartD r (List.mem_append_left _ z)
    · cases z with
      | head => exact ne.symm
      | tail _ z => exact apartD r (List.mem_append_right _ z)
  let Kept : Nat → Shared → Prop := fun i t => ∃ ks n, Inv X ((d, lstO ks n) :: (a, lstO #[] e1) :: f :: pins) σ H t ∧ EachIs IsI ks.toList ((ns.map g).take i)
  have turn : ∀ (j : Nat) (u : Value) (t : Shared), us[j]? = some u → Kept j t →
      wpAny (model X.prog X.w) A (call (.ref f.1) [u]) (fun k t2 => ∃ ks n, ks.size ≤ us.length ∧ t2.heap.get? d = some (lstO ks n) ∧
        ∀ h2 n2, (∀ b o, b ≠ d → t2.heap.get? b = some o → h2.get? b = some o) → h2.get? d = some (lstO (ks.push k) n2) → Kept (j + 1) { t2 with heap := h2 }) (fun _ _ => False) t := by
    rintro j u t hu ⟨ks, n, J, hks⟩
    obtain ⟨m, hm, ru⟩ := is_at items hu
    refine wpAny_mono (tells m (List.mem_of_getElem? hm) u _ t ru (List.mem_cons_of_mem _ (List.mem_cons_of_mem _ (List.mem_cons_self ..))) J) ?_ fun _ _ z => z
    rintro k t2 ⟨v, H2, J2, rk, rfl, rfl⟩
    have small : ks.size ≤ us.length := by
      have := hks.length
      simp only [Array.length_toList, List.length_take, List.length_map] at this
      omega
    refine ⟨ks, n, small, (top_pin J2).1, fun h2 n2 off put => ⟨ks.push k, n2, re_pin J2 oursD apartD2 off put (fun v z => nomatch z), ?_⟩⟩
    rw [Array.toList_push, List.take_add_one, List.getElem?_map, hm]
    exact PySem.W.each_snoc (R := IsI) rk hks
  have last : ∀ t : Shared, Kept us.length t → ∀ {F : Value → Shared → Prop}, wpAny (model X.prog X.w) A (do
      let ks ← Builtin.List.listItems (.ref d)
      ksk_end a false us.toArray e1 (.ref d) ks) P F t := by
    rintro t ⟨ks, n, J, hks⟩ F
    rw [List.take_of_length_le (by rw [List.length_map]; omega)] at hks
    have size : ks.size = us.length := by
      have := hks.length
      simp only [Array.length_toList, List.length_map] at this
      omega
    let kd : List PyData := ns.map fun n => .int (g n)
    have reads : EachIs (fun v k => ∃ as, Reads t.heap v k as) ks.toList kd := by
      have : kd = (ns.map g).map PyData.int := by rw [List.map_map]; rfl
      rw [this]
      refine PySem.W.each_map (R := fun v k => ∃ as, Reads t.heap v k as) PyData.int (hks.mono ?_)
      rintro u m ⟨tok, rfl⟩
      exact ⟨[], .int m tok⟩
    have alike : PySem.W.AllAlike kd := PySem.W.AllAlike.of fun _ _ => rfl
    have sorts : PySem.W.Sortable kd := PySem.W.Sortable.others fun _ => ⟨(fun z => nomatch z), fun _ z => nomatch z⟩
    have S := PySem.W.SortsAt.data (prog := X.prog) (w := X.w) (A := A) reads alike sorts (PySem.W.bound_map fun _ _ => units)
    have pd := top_pin J
    have pa := top_pin (off_pin J)
    -- the heap without the keys' list
    let hid : Hp := upd (fun _ => none) d (.lst [])
    have seen : ∀ {b : Addr} {o : Obj}, (hidT t.heap hid).get? b = some o → t.heap.get? b = some o ∧ b ≠ d := by
      intro b o q
      obtain ⟨q1, q2⟩ := of_hidT q
      exact ⟨q1, fun z => nomatch (show some (HO.lst []) = none from (by rw [← q2, z]; exact upd_same.symm))⟩
    have gone : (hidT t.heap hid).get? d = none := by
      cases q : (hidT t.heap hid).get? d with
      | none => rfl
      | some o => exact absurd rfl (seen q).2
    refine wpAny_bind (listItems_at pd.1 rfl (PySem.W.keyH_end (h₁ := hidT t.heap hid) (fun b o _ q => (seen q).1) gone pd.1 pa.1 ne S size fits ?_))
    intro h' tk c but put
    have out := PySem.W.keyedOut_each (rev := false) (R := IsI) (fun n => PyData.int (g n)) ⟨t.heap, ks.toList, alike, rfl, reads⟩ items
    rw [PySem.W.dataLe_int] at out
    refine end_ _ (off_pin (lay_pin (pins := f :: pins) J oursA oursD apartA apartD (fun b o h1 h2 q => but b o h1 (hidT_get q (upd_ne h2))) put ?_ (is_to out)))
    rw [List.length_map]
    show (srt g ns).length ≤ sizeLine
    unfold srt
    rw [List.length_mergeSort]
    omega
  show wpAny _ _ (rule "list.sort.key" >>= fun _ => _) _ _ _
  refine wpAny_bind (wpAny_rule ?_)
  rw [List.forIn_toArray]
  refine wpAny_bind (ksk_fold Kept us 0 s ⟨#[], 0, I, by rw [List.take_zero]; exact .nil⟩ ?_ ?_)
  · intro j u t hu kept
    rw [Nat.zero_add] at kept
    rw [Nat.zero_add]
    refine wpAny_bind (wpAny_attempt (wpAny_mono (turn j u t hu kept) ?_ fun _ _ z => z.elim))
    rintro k t2 ⟨ks, n, small, at_, go⟩
    have up := get?_update_seq at_ (·.push k)
    refine wpAny_bind (listUpdate_at at_ rfl (wpAny_pure ⟨rfl, go _ _ (fun b o hb q => ((Heap.SameBut.update t2.heap d (Obj.mapSeq (·.push k))).2 b hb).trans q) up⟩) (by omega) (by rw [Array.size_push]; omega))
  · intro t kept
    rw [Nat.zero_add] at kept
    exact last t kept
end
end MG

/-! MG: the rule for sorted(t, key=lambda p: body), t a tuple of whole numbers. -/
namespace MG
open PySem PySem.Spec PyProof.Rows L2 LamX NdefX
open PySem.W (EachIs)
section
variable {X : Cx} {pins : List (Addr × Obj)} {σ : L2.St} {H : Hp} {A : Around} {E : Value → Shared → Prop} {P : PySem.Fin → Shared → Prop}
/-- a new list of ours is sorted by keys -/
theorem by_keys_of {s : Shared} {a : Addr} {f : Addr × Obj} {us : List Value} {ns : List Int} {g : Int → Int} {n : Nat} (items : EachIs IsI us ns)
    (I : Inv X ((a, lstO us.toArray n) :: f :: pins) σ H s) (oursA : X.s_0.heap.objs.size ≤ a) (apartA : ∀ r ∈ X.pn ++ (f :: pins), r.1 ≠ a)
    (fits : us.length ≤ sizeLine) (units : A.units < cLine) (tells : Tells X A σ H f g ns)
    (end_ : ∀ s', Inv X pins σ (upd H a (.lst ((srt g ns).map V.int))) s' → P (.done (.ret .none)) s') :
    wpAny (model X.prog X.w) A (ksk_tree a (.ref f.1) false) P E s := by
  have pa := top_pin I
  have emptied := get?_update_seq pa.1 fun _ => (#[] : Array Value)
  have J := re_pin I oursA apartA (fun b o hb q => ((Heap.SameBut.update s.heap a (Obj.mapSeq fun _ => #[])).2 b hb).trans q) emptied fun v z => nomatch z
  have J2 := off_pin (new_pin (o := seqObj "tuple" us.toArray 0) J (fun v z => nomatch z) rfl)
  have J3 := new_pin (o := lstO #[] 0) J2 (fun v z => nomatch z) rfl
  have old : ∀ r ∈ X.pn ++ (f :: pins), s.heap.get? r.1 = some r.2 := fun r hr => by
    rcases List.mem_append.mp hr with z | z
    · exact (I.pin r (List.mem_append_left _ z)).1
    · exact (I.pin r (List.mem_append_right _ (List.mem_cons_of_mem _ z))).1
  have size : ((s.heap.update a (Obj.mapSeq fun _ => (#[] : Array Value))).push (seqObj "tuple" us.toArray 0)).objs.size = s.heap.objs.size + 1 := by
    rw [size_push', Heap.size_update]
  unfold ksk_tree
  refine wpAny_bind (listItems_at pa.1 rfl (wpAny_bind (listUpdate_at pa.1 rfl ?_ (by simpa using fits) (Nat.zero_le _))))
  refine wpAny_bind (seqEpoch_at emptied rfl (wpAny_bind (wpAny_newTuple (wpAny_bind (wpAny_newList (wpAny_holding ?_) (Nat.zero_le _))) fits)))
  refine by_keys items J3 ?_ oursA ?_ apartA ?_ fits units tells end_
  · rw [size]
    exact Nat.ne_of_gt (Nat.lt_succ_of_lt (Heap.lt_size pa.1))
  · rw [size]
    exact Nat.le_succ_of_le I.sz
  · intro r hr
    rw [size]
    exact Nat.ne_of_lt (Nat.lt_succ_of_lt (Heap.lt_size (old r hr)))
end

/-- the reading: the tuple, the tables, then of each number what the body tells, nothing changed -/
def rSortLam (K : PySem.W.Frag) (T : List (Addr × Str)) (N : List Str) (js : List Nat) (tb : TE) (σ : L2.St) (Q : VK) : List V → Hp → Prop
  | [x], H1 => ∃ (a : Addr) (ns : List Int) (g : Int → Int), x = .ref a ∧ H1 a = some (.tup (ns.map V.int)) ∧ Tabs T H1 ∧
      ∀ H2, ExtN H1 H2 → Tabs T H2 → (∀ n ∈ ns, tb (startF N [.int n] (js.map (slotAt σ))) H2 fun v H' => H' = H2 ∧ v = .int (g n)) ∧
        ∀ q, H2 q = none → Q (.ref q) (upd H2 q (.lst ((srt g ns).map V.int)))
  | _, _ => False
def tSortLam (K : PySem.W.Frag) (T : List (Addr × Str)) (N : List Str) (js : List Nat) (te tb : TE) : TE := fun σ H Q => te σ H fun x H1 => rSortLam K T N js tb σ Q [x] H1
theorem pe_sortLam {X : Cx} {T : List (Addr × Str)} {c P : Addr} {k : Nat} {params : Arguments} {e body : Expr} {scope : Scope} {te tb : TE} {N fr : List Str} {js : List Nat}
    {p lpos pos kpos : Pos} {x : Str} (glob : Gl X "sorted") (plain : X.mg "sorted" = none) (he : PE X e te) (table : TabB X.base X.mg c P) (code : X.env.code = .ref c)
    (mine : (P, X.env.qual ++ "<lambda>") ∈ T) (only : ∀ t ∈ T, t.1 = P → t.2 = X.env.qual ++ "<lambda>") (room : Room (k + 3) X.A) (S : NScope N [x] fr scope)
    (kin : ∀ y ∈ scope.names, y.2 = .free → X.env.scope.names.lookup y.1 = some .cell ∨ X.env.scope.names.lookup y.1 = some .free) (at_ : js.map (fun j => X.N[j]?) = fr.map some)
    (nodef : defaultsOf params X.env = ([], []))
    (bnd : ∀ (q : Str) (cl : List (Str × Addr)) (pm cv ct u : Value), bindArgs (PySem.W.kla_fn "<lambda>" q params body scope cl pm cv ct) ⟨[u], []⟩ = pure [(x, u)])
    (bod : ∀ (A : Around) (s : Shared) (H : Hp) (f c' : Addr), Room k (A.deeper (envF (lamOf X params scope c') f s.heap.objs.size)) → PE (lamCtx X N params scope f c' A s H) body tb)
    (h1 : backTo pos (starEach [e] X.env) = (false, eval e X.env) :: backTo pos (starEach [] X.env) := by rfl) (h2 : (backTo pos (starEach [e] X.env)).any (·.1) = false := by rfl)
    (h3 : starEach [e] X.env = (false, eval e X.env) :: starEach [] X.env := by rfl) :
    PE X (.Call (.Name "sorted" p) [e] [⟨some "key", .Lambda params body scope lpos, kpos⟩] pos) (tSortLam X.K T N js te tb) := by
  refine ⟨?_⟩
  intro pins s σ H Q I want
  have free : ∀ (Z : X.Ok), ∀ y ∈ scope.names, y.2 = .free → ∃ c, X.env.cells.lookup y.1 = some c := fun Z y hy hf => by
    cases kin y hy hf with
    | inl z => exact Z.has _ (Or.inl z)
    | inr z => exact Z.has _ (Or.inr z)
  refine wpAny_Call_Name_kw (ld_blt I glob plain (show bootBuiltins "sorted" = some (.builtin "sorted") by decide +kernel) (PyProof.Rows.callWith_kw (thn ((pa_cons he pa_nil h3).run pos pins s σ H (rSortLam X.K T N js tb σ Q) I want) ?_) h1 h2 (by rfl) (by rfl)) (by decide) (by decide))
  rintro us s1 ⟨vs, H1, I1, rel, go⟩
  match vs, rel, go with
  | [y], rel, go =>
    obtain ⟨a, ns, g, rfl, tup, tabs, go⟩ := go
    obtain rfl := Vals.ref1 rel
    refine wpAny_evalAll_cons (wpAny_bind (lam_make2 I1 table code mine only tabs nodef (free I1.ok) ?_))
    intro f c' pm ct H2 s2 I2 ext tabs2 obj fresh nofr cod
    refine wpAny_bind (wpAny_standAt (wpAny_pure (wpAny_evalAll_nil ?_)))
    obtain ⟨tellsB, end_⟩ := go H2 ext tabs2
    obtain ⟨its, relI, isT, fits⟩ := I2.tuple (.inl (.inl (ext _ _ tup fun ps z => nomatch z)) : SqT X.K H2 a (ns.map V.int))
    have items := is_of relI
    have fits' : its.length ≤ sizeLine := by rw [← relI.length]; exact fits
    have notLocal : f ≠ X.env.locals := by
      intro z
      obtain ⟨m, ⟨o, es, ep, atL, dat, _⟩, _⟩ := I2.loc
      rw [← z, obj] at atL
      obtain rfl := Option.some.inj atL
      exact nomatch dat
    have notFs : f ∉ X.fs := by
      intro z
      apply nofr
      cases I2.ok.stk with
      | inl e => rw [e]; exact z
      | inr e =>
        rw [e.1]
        show f ∈ List.filterMap _ (X.env :: X.outer)
        rw [List.filterMap_cons, e.2]
        exact List.mem_cons_of_mem _ z
    have I3 : Inv X ((f, lamObj X params body scope pm c' ct) :: pins) σ H2 s2 := I2.pins_of fun r hr => by
      cases hr with
      | head => exact ⟨obj, fresh, notLocal, notFs, fun v z => nomatch z⟩
      | tail _ hr => exact I2.pin r (List.mem_append_right X.pn hr)
    have room2 : Room (k + 1) X.A.in1.in1 := room.in1.in1
    change wpAny _ _ (call (.builtin "sorted") [.ref a] [(Str.ofString "key", .ref f)]) _ _ s2
    refine sort_tuple isT fits' (ksk_s1 _ _) (fun _ => ksk_l1 _ _) ?_
    intro h grows E'
    rw [ksk_t1]
    have I4 := new_pin (o := lstO its.toArray 0) (I3.kept (t' := s2.toks) grows) (fun v z => nomatch z) rfl
    refine by_keys_of (f := (f, lamObj X params body scope pm c' ct)) (g := g) items I4 ?_ ?_ fits' room2.units0 ?_ ?_
    · exact (I3.kept (t' := s2.toks) grows).sz
    · intro r hr
      exact Nat.ne_of_lt (Heap.lt_size (grows _ _ (I3.pin r hr).1))
    · intro n hn u ps t ru hf J
      refine lam_value (tb := tb) (pm := pm) (ct := ct) J room2 J.env0.in1.in1 S (Caps.made J.ok kin ?_ at_) ?_ cod (bnd _ _ _ _ _ _) ru (bod _ _ _ _ _) (tellsB n hn)
      · exact fun y hy => PySem.mem_of_lookup (S.frk y hy)
      · exact (J.pin _ (List.mem_append_right X.pn hf)).1
    · intro t J
      exact ⟨rfl, .ref h.objs.size, _, J, rfl, end_ _ ((I3.kept (t' := s2.toks) grows).hok.fresh (Nat.le_refl _))⟩
end MG

/-! MG: a def whose code object is known; tables kept -/
namespace MG
open PySem PySem.Spec PyProof.Rows L2 LamX NdefX
section
variable {P : Program} {w : World} {K : PySem.W.Frag} {mg : Str → Option Value} {base : Heap}
/-- a def by its body, which may know its own code object -/
theorem okC {x qual : Str} {st : Stmt} {f : Addr} {fd : FuncData} {N ps : List Str} {k : Nat} {sp : Sp} {c : Addr}
    (F : Fun K x qual st f fd) (code : fd.code = .ref c) (S : FnScope N ps (defScope st))
    (hlen : ∀ vs H Q E, sp vs H Q E → vs.length = ps.length)
    (body : ∀ (A : Around) (outer : List Env) (s : Shared) (H : Hp) (vs : List V) (Q : VK) (E : XK),
      Room k (A.deeper (envOfC qual (defScope st) s.heap.objs.size f (.ref c))) → sp vs H Q E →
      ∃ t, PSs (cxOf CX0 P w K mg base N qual (defScope st) f (.ref c) A outer s H E).nox (defBody st) t ∧
        t { nx := fun _ H' => Q .non H', rt := Q } (start N vs) H) :
    FnOk P w K mg base CX0 (k + 1) f fd ps sp := by
  obtain ⟨oc, od, kV, doc, pm, an, cdx, ct, osl, rfl, lk, hcd⟩ := F.ex
  obtain rfl : cdx = .ref c := code
  refine ⟨hlen, ?_⟩
  intro A outer s H args us vs Q E room e0 bnd rel want
  have inK : K.In s.heap := e0.mod.kin.keeps (fun b o q => (e0.bs b o q).left)
  have noLim : s.heap.NoLimit := e0.mod.nolimit.keeps (fun b o q => (e0.bs b o q).left)
  refine codeAny_call_function room.depth (inK _ _ lk) rfl S.co S.gen rfl
    (PySem.W.codeRec_of inK hcd) (bnd _ _ _ _ ?_)
  refine wpAny_newFunctionEnv_cells S.kind ?_ ?_
  · rintro ⟨n, v⟩ hy
    rcases S.par n (List.of_mem_zip hy).1 with loc | cel
    · exact Or.inl loc
    · exact Or.inr ⟨cel, PySem.W.cellsFrom_some _ _ _ (Or.inl cel)⟩
  · intro env he s1 x
    subst he
    refine ⟨noLim.keeps x.toInCall.keep, codeAny_func ?_⟩
    obtain ⟨t, ht0, hq⟩ := body A outer s H vs Q E (room.deeper _) want
    have ht := ht0.nox
    have I := inv_start (CX := CX0) (N := N) (qual := qual) (f := f) (cd := .ref c) (E := E) S room.hd e0 (hlen _ _ _ _ want) rel x
    refine wpAny_mono (ht.run [] s1 (start N vs) H _ I hq) ?_ (fun _ _ z => z)
    intro fl s' hs
    cases fl with
    | ret u =>
      obtain ⟨v, σ', H', J, rv, q⟩ := hs
      exact ⟨v, H', J.os, J.bare, J.base, J.hok, rv, q⟩
    | next =>
      obtain ⟨σ', H', J, q⟩ := hs
      exact ⟨V.non, H', J.os, J.bare, J.base, J.hok, rfl, q⟩
    | brk =>
      obtain ⟨_, _, _, q⟩ := hs
      exact q.elim
    | cont =>
      obtain ⟨_, _, _, q⟩ := hs
      exact q.elim
end
/-! ### tables -/
theorem ext_same {H H' : Hp} (s : Same H H') : ExtN H H' := fun b o h _ => s b o h
theorem extTup {H H' : Hp} (e : ExtN H H') {a : Addr} {xs : List V} (h : H a = some (.tup xs)) : H' a = some (.tup xs) := e a _ h fun ps z => nomatch z
theorem extLst {H H' : Hp} (e : ExtN H H') {a : Addr} {xs : List V} (h : H a = some (.lst xs)) : H' a = some (.lst xs) := e a _ h fun ps z => nomatch z
theorem extPr {H H' : Hp} (e : ExtN H H') {ts : List Addr} {cs : List (Int × Int)} (h : PrAt H ts cs) : PrAt H' ts cs := h.mono fun a o ho q => by
  obtain ⟨x, y, rfl⟩ := ho
  exact extTup e q
/-- all but the box and the tables stay -/
def SXN (b : Addr) (H H' : Hp) : Prop := ∀ a o, a ≠ b → H a = some o → (∀ ps, o ≠ .tbl ps) → H' a = some o
theorem SXN.refl (b : Addr) (H : Hp) : SXN b H H := fun _ _ _ h _ => h
theorem SXN.trans {b : Addr} {H H1 H2 : Hp} (x : SXN b H H1) (y : SXN b H1 H2) : SXN b H H2 := fun a o n h z => y a o n (x a o n h z) z
theorem SXN.of {b : Addr} {H H' : Hp} (s : ∀ a o, a ≠ b → H a = some o → H' a = some o) : SXN b H H' := fun a o n h _ => s a o n h
theorem SXN.ofExt {b : Addr} {H H' : Hp} (s : ExtN H H') : SXN b H H' := fun a o _ h z => s a o h z
theorem SXN.tup {b : Addr} {H H' : Hp} (e : SXN b H H') {a : Addr} {xs : List V} (n : a ≠ b) (h : H a = some (.tup xs)) : H' a = some (.tup xs) := e a _ n h fun ps z => nomatch z
/-- tables stay where a list alone is written -/
theorem tabsOff {T : List (Addr × Str)} {b : Addr} {H H' : Hp} {xs : List V} (t : Tabs T H) (hb : H b = some (.lst xs)) (s : ∀ a o, a ≠ b → H a = some o → H' a = some o) : Tabs T H' := by
  intro p hp
  obtain ⟨ps, e, ok, all⟩ := t p hp
  refine ⟨ps, s _ _ (fun z => by rw [z, hb] at e; cases e) e, ok, fun pos cv h => ?_⟩
  obtain ⟨c, ec, hc⟩ := all pos cv h
  exact ⟨c, ec, s _ _ (fun z => by rw [z, hb] at hc; cases hc) hc⟩
end MG

/-! MG: isinstance of a kept exception, or of anything else -/
namespace MG
open PySem PySem.Spec PyProof.Rows L2
/-- a value's type: that of a kept exception too -/
inductive TyE (K : PySem.W.Frag) (H : Hp) : V → Value → Prop where
  | other {x : V} {t : Value} (h : TyX K H x t) : TyE K H x t
  | exc {a D : Addr} (C : ExcC K D) (e : H a = some (ExI (.ref D) a)) : TyE K H (.ref a) (.ref D)
section
variable {X : Cx} {pins : List (Addr × Obj)} {σ : L2.St} {H : Hp} {s : Shared}
theorem kit_e {x : V} {u t : Value} (I : Inv X pins σ H s) (rx : RelV x u) (ty : TyE X.K H x t) :
    ∃ P : Heap → Prop, PySem.W.KitX X.K u t P ∧ P s.heap ∧ u ≠ .builtin "__main__.__loader__#opaque" := by
  cases ty with
  | other h => exact kit_of I rx h
  | @exc a D C e =>
    obtain rfl : u = Value.ref a := rx
    obtain ⟨⟨oe, vs, at_, z, dd⟩, _, _⟩ := I.hok a _ e
    refine ⟨_, PySem.W.handS_kitx_exc (ox := oe) C.hg C.hk C.hs C.hd C.ha C.hn C.ht C.hm, ?_, fun z => nomatch z⟩
    refine ⟨at_, z.1, ?_, ?_⟩
    · unfold PySem.W.notCls
      rw [dd] <;> trivial
    · rw [z.2] <;> trivial
end
/-- isinstance(x, c) -/
def rIsO (K : PySem.W.Frag) : List V → Hp → VK → Prop := fun xs H Q => ∃ (x c : V) (t u : Value) (b : Bool), xs = [x, c] ∧ ClsV c u ∧ TyE K H x t ∧ PySem.W.kitOne K t u = some b ∧ Q (.bl b) H
/-- isinstance(x, (c, ..)) -/
def rIsOT (K : PySem.W.Frag) : List V → Hp → VK → Prop := fun xs H Q => ∃ (x : V) (tp : Addr) (cs : List V) (t : Value) (us : List Value) (b : Bool), xs = [x, .ref tp] ∧ H tp = some (.tup cs) ∧ Paired ClsV cs us ∧ TyE K H x t ∧ PySem.W.kitAny K t us = some b ∧ Q (.bl b) H
section
variable {X : Cx}
theorem call_isO : CallR X (.builtin "isinstance") (rIsO X.K) := by
  rintro pins s σ H xs us Q I r ⟨x, c, t, u, b, rfl, cls, ty, ans, q⟩
  obtain ⟨v1, v2, rfl, r1, r2⟩ := vals2 r
  obtain rfl := cls.eq r2
  obtain ⟨P, kit, holds, notL⟩ := kit_e I r1 ty
  exact PySem.W.kia_one kit I.kIn holds ans notL fun tk => ⟨.bl b, H, I.tok tk, rfl, q⟩
theorem call_isOT : CallR X (.builtin "isinstance") (rIsOT X.K) := by
  rintro pins s σ H xs us Q I r ⟨x, tp, cs, t, ws, b, rfl, atT, cls, ty, ans, q⟩
  obtain ⟨v1, v2, rfl, r1, r2⟩ := vals2 r
  obtain rfl : v2 = Value.ref tp := r2
  obtain ⟨P, kit, holds, notL⟩ := kit_e I r1 ty
  obtain ⟨_, its, rel, ⟨k1, k2, k3, k4⟩, h1, h2, n, h3⟩ := (show ObjOk X.prog X.w H s.heap tp (.tup cs) from I.hok tp _ atT)
  obtain rfl := ClsV.all cls rel
  dsimp only at h2 h3
  subst h2 h3
  exact PySem.W.kia_tup kit I.kIn holds h1 ans notL fun tk => ⟨.bl b, H, I.tok tk, rfl, q⟩
end
end MG
namespace MG
open PySem PySem.Spec PyProof.Rows L2
/-- what is known of an own exception class that is raised with a text -/
structure ExcF (K : PySem.W.Frag) (mg : Str → Option Value) (x : Str) (C : Addr) : Prop where
  g : mg x = some (.ref C)
  x : PySem.W.excIn K C [.type "ValueError", .type "Exception", .type "BaseException", .type "object"] "ValueError.__new__" = true
  k : PySem.W.keepIn K (.ref C) = true
  b : PySem.W.subIn K (.ref C) (.type "BaseException") = some true
  t : PySem.W.typeIn K (.ref C) = some (.type "type")
/-- raise X("..") -/
theorem ps_raiseX {X : Cx} {W : WX} {C : Addr} {x m : Str} {j : Nat} {p p2 pos pos2 : Pos} (hc : X.calm = true) (tk : Takes X W) (F : ExcF X.K X.mg x C) (hg : Gl X x) (hdb : (x == ("__debug__" : Str)) = false := by decide) :
    PS X (.Raise (some (.Call (.Name x p) [.Constant (.str m) j p2] [] pos)) none pos2) (fun _ σ H => W (.ref C) none σ H) :=
  ps_raise hc tk (pmk_own PySem.F.excBase_ValueError F.x F.g F.k (raises_own F.b F.t) hg hdb)
end MG
namespace MG
open PySem PySem.Spec PyProof.Rows L2
/-- the slots of an exception's state are as many as the names -/
theorem takes_len {X : Cx} {W : WX} (t : Takes X W) : Takes X (fun cls d σ H => σ.length = X.N.length → W cls d σ H) := fun u s' ⟨a, B, sI, pins, σ, H, cls, d, e, I, nb, up, sky, na, os, ag, w⟩ =>
  t u s' ⟨a, B, sI, pins, σ, H, cls, d, e, I, nb, up, sky, na, os, ag, w I.len⟩
theorem len4 {α : Type} {l : List α} (h : l.length = 4) : ∃ a b c d, l = [a, b, c, d] := by
  match l, h with
  | [a, b, c, d], _ => exact ⟨a, b, c, d, rfl⟩
end MG
namespace MG
theorem len3 {α : Type} {l : List α} (h : l.length = 3) : ∃ a b c, l = [a, b, c] := by
  match l, h with
  | [a, b, c], _ => exact ⟨a, b, c, rfl⟩
theorem len2 {α : Type} {l : List α} (h : l.length = 2) : ∃ a b, l = [a, b] := by
  match l, h with
  | [a, b], _ => exact ⟨a, b, rfl⟩
end MG

/-! MG: f(b=.., a=..), every parameter by its name, the last one first; defs that know their code object where no repr is under way -/
namespace MG
open PySem PySem.Spec PyProof.Rows L2
theorem vals_app {xs ys : List V} {us vs : List Value} (h : Vals xs us) (k : Vals ys vs) : Vals (xs ++ ys) (us ++ vs) := by
  induction h with
  | nil => exact k
  | cons r _ ih => exact .cons r ih
theorem vals_rev {xs : List V} {us : List Value} (h : Vals xs us) : Vals xs.reverse us.reverse := by
  induction h with
  | nil => exact .nil
  | cons r _ ih =>
    rw [List.reverse_cons, List.reverse_cons]
    exact vals_app ih (.cons r .nil)
/-- how names bind, the last parameter's first -/
def RB (K : PySem.W.Frag) (fd : FuncData) (ps : List Str) : Prop :=
  ∀ (s : Shared) (us : List Value), K.In s.heap → us.length = ps.length → BindsTo s fd ⟨[], ps.reverse.zip us⟩ (ps.zip us.reverse)
theorem rb_of {K : PySem.W.Frag} {x qual : Str} {st : Stmt} {f : Addr} {fd : FuncData} {ps : List Str} (F : Fun K x qual st f fd)
    (h : ∀ (kV doc pm : Value) (an : Option Addr) (cdv ct : Value) (us : List Value), us.length = ps.length →
      bindArgs (PySem.W.fnOf x qual (defArgs st) (defBody st) (defScope st) .none kV doc pm an cdv ct) ⟨[], ps.reverse.zip us⟩ = pure (ps.zip us.reverse)) : RB K fd ps := by
  obtain ⟨oc, od, kV, doc, pm, an, cdv, ct, osl, rfl, lk, hcd⟩ := F.ex
  intro s us _ e
  exact .of_eq (h kV doc pm an cdv ct us e)
/-- the arguments' reading, then the promise of them in the def's order -/
def tCallR (sp : Sp) (E : XK) (tk : TA) : TE := fun σ H Q => tk σ H fun zs H2 => sp zs.reverse H2 Q E
section
variable {X : Cx} {k : Nat} {f : Addr} {fd : FuncData} {ps : List Str} {sp : Sp} {E : XK} {x : Str} {p pos : Pos} {kws : List Keyword} {tk : TA}
theorem pe_callR {CX : CXT} (F : FnOk X.prog X.w X.K X.mg X.base CX k f fd ps sp) (room : Room k X.A) (glob : Gl X x) (at_ : X.mg x = some (.ref f)) (kept : PySem.W.keepIn X.K (.ref f) = true) (names : RB X.K fd ps) (out : Passes CX X E) (args : PK X kws tk)
    (all : (backToKw pos (keywordEach kws X.env)).all (·.1.isSome) = true := by rfl) (these : (backToKw pos (keywordEach kws X.env)).filterMap (·.1) = ps.reverse := by rfl) (nd : (x == ("__debug__" : Str)) = false := by decide)
    (noStar : ((backTo pos (starEach [] X.env)).any (·.1) || (backToKw pos (keywordEach kws X.env)).any (·.1.isNone)) = false := by rfl) : PE X (.Call (.Name x p) [] kws pos) (tCallR sp E tk) := by
  refine ⟨fun pins s σ H Q I want => wpAny_Call_Name_kw (ld_glob I glob at_ (PySem.W.callWith_KW0 (h₀ := X.base) I.ok.mod.kin kept all (thn (args.run pos pins s σ H _ I want) ?_) noStar) nd)⟩
  rintro us s1 ⟨vs, H1, J, rel, q⟩
  refine ⟨J.kIn, ?_⟩
  have many : us.length = ps.length := by
    have z := F.len _ _ _ _ q
    rw [List.length_reverse] at z
    exact rel.length.symm.trans z
  rw [these]
  have run := F.run X.A X.stack s1 H1 ⟨[], ps.reverse.zip us⟩ us.reverse vs.reverse Q E room J.env0 (names s1 us J.kIn many) (vals_rev rel) q
  refine wpAny_call (codeAny_mono run fun r s2 end_ => ?_)
  match r, end_ with
  | .error e, end_ => exact out pins σ H1 s1 e s2 J end_
  | .ok (.ret u), end_ => exact J.after end_
theorem pe_callRG (F : FnG X.prog X.w X.K X.mg X.base k f fd ps sp) (gd : X.A.guards = some []) (room : Room k X.A) (glob : Gl X x) (at_ : X.mg x = some (.ref f)) (kept : PySem.W.keepIn X.K (.ref f) = true) (names : RB X.K fd ps) (args : PK X kws tk)
    (all : (backToKw pos (keywordEach kws X.env)).all (·.1.isSome) = true := by rfl) (these : (backToKw pos (keywordEach kws X.env)).filterMap (·.1) = ps.reverse := by rfl) (nd : (x == ("__debug__" : Str)) = false := by decide)
    (noStar : ((backTo pos (starEach [] X.env)).any (·.1) || (backToKw pos (keywordEach kws X.env)).any (·.1.isNone)) = false := by rfl) : PE X (.Call (.Name x p) [] kws pos) (tCallR sp E tk) := by
  refine ⟨fun pins s σ H Q I want => wpAny_Call_Name_kw (ld_glob I glob at_ (PySem.W.callWith_KW0 (h₀ := X.base) I.ok.mod.kin kept all (thn (args.run pos pins s σ H _ I want) ?_) noStar) nd)⟩
  rintro us s1 ⟨vs, H1, J, rel, q⟩
  refine ⟨J.kIn, ?_⟩
  have many : us.length = ps.length := by
    have z := F.len _ _ _ _ q
    rw [List.length_reverse] at z
    exact rel.length.symm.trans z
  rw [these]
  have run := F.run X.A X.stack s1 H1 ⟨[], ps.reverse.zip us⟩ us.reverse vs.reverse Q E gd room J.env0 (names s1 us J.kIn many) (vals_rev rel) q
  refine wpAny_call (codeAny_mono run fun r s2 end_ => ?_)
  match r, end_ with
  | .error e, end_ => exact False.elim end_
  | .ok (.ret u), end_ => exact J.after end_
end
section
variable {P : Program} {w : World} {K : PySem.W.Frag} {mg : Str → Option Value} {base : Heap}
/-- a def by its body, which may know its own code object, where no repr is under way -/
theorem okGC {x qual : Str} {st : Stmt} {f : Addr} {fd : FuncData} {N ps : List Str} {k : Nat} {sp : Sp} {c : Addr}
    (F : Fun K x qual st f fd) (code : fd.code = .ref c) (S : FnScope N ps (defScope st)) (hlen : ∀ vs H Q E, sp vs H Q E → vs.length = ps.length)
    (body : ∀ (A : Around) (outer : List Env) (s : Shared) (H : Hp) (vs : List V) (Q : VK) (E : XK),
      A.guards = some [] → Room k (A.deeper (envOfC qual (defScope st) s.heap.objs.size f (.ref c))) → sp vs H Q E →
      ∃ t, PSs (cxOf CX0 P w K mg base N qual (defScope st) f (.ref c) A outer s H E).nox (defBody st) t ∧
        t { nx := fun _ H' => Q .non H', rt := Q } (start N vs) H) :
    FnG P w K mg base (k + 1) f fd ps sp := by
  obtain ⟨oc, od, kV, doc, pm, an, cdx, ct, osl, rfl, lk, hcd⟩ := F.ex
  obtain rfl : cdx = .ref c := code
  refine ⟨hlen, ?_⟩
  intro A outer s H args us vs Q E gd room e0 bnd rel want
  have inK : K.In s.heap := e0.mod.kin.keeps (fun b o q => (e0.bs b o q).left)
  have noLim : s.heap.NoLimit := e0.mod.nolimit.keeps (fun b o q => (e0.bs b o q).left)
  refine codeAny_call_function room.depth (inK _ _ lk) rfl S.co S.gen rfl
    (PySem.W.codeRec_of inK hcd) (bnd _ _ _ _ ?_)
  refine wpAny_newFunctionEnv_cells S.kind ?_ ?_
  · rintro ⟨n, v⟩ hy
    rcases S.par n (List.of_mem_zip hy).1 with loc | cel
    · exact Or.inl loc
    · exact Or.inr ⟨cel, PySem.W.cellsFrom_some _ _ _ (Or.inl cel)⟩
  · intro env he s1 x
    subst he
    refine ⟨noLim.keeps x.toInCall.keep, codeAny_func ?_⟩
    obtain ⟨t, ht0, hq⟩ := body A outer s H vs Q E gd (room.deeper _) want
    have ht := ht0.nox
    have I := inv_start (CX := CX0) (N := N) (qual := qual) (f := f) (cd := .ref c) (E := E) S room.hd e0 (hlen _ _ _ _ want) rel x
    refine wpAny_mono (ht.run [] s1 (start N vs) H _ I hq) ?_ (fun _ _ z => z)
    intro fl s' hs
    cases fl with
    | ret u =>
      obtain ⟨v, σ', H', J, rv, q⟩ := hs
      exact ⟨v, H', J.os, J.bare, J.base, J.hok, rv, q⟩
    | next =>
      obtain ⟨σ', H', J, q⟩ := hs
      exact ⟨V.non, H', J.os, J.bare, J.base, J.hok, rfl, q⟩
    | brk =>
      obtain ⟨_, _, _, q⟩ := hs
      exact q.elim
    | cont =>
      obtain ⟨_, _, _, q⟩ := hs
      exact q.elim
end
end MG
namespace MG
open PySem PySem.Spec PyProof.Rows L2 LamX
mutual
/-- data stay where only tables of code objects are written -/
theorem Dd.ext {H H' : Hp} (s : ExtN H H') : ∀ {v : V} {d : PyData}, Dd H v d → Dd H' v d
  | _, _, .non => .non
  | _, _, .bl b => .bl b
  | _, _, .int i => .int i
  | _, _, .str x => .str x
  | _, _, .lst e r => .lst (extLst s e) (DdAll.ext s r)
  | _, _, .tup e r => .tup (extTup s e) (DdAll.ext s r)
  | _, _, .dic e r => .dic (s _ _ e fun ps z => nomatch z) (DdAll.ext s r)
theorem DdAll.ext {H H' : Hp} (s : ExtN H H') : ∀ {vs : List V} {ds : List PyData}, DdAll H vs ds → DdAll H' vs ds
  | _, _, .nil => .nil
  | _, _, .cons a b => .cons (Dd.ext s a) (DdAll.ext s b)
end
/-- what repr asks -/
def ReprOk (d : PyData) : Prop := d.showable = true ∧ d.depth ≤ 60 ∧ d.shown.length ≤ sizeLine
theorem ReprOk.of {n c : Nat} {d : PyData} (h : Sh n c d) (hn : n ≤ 60) (hc : c ≤ sizeLine) : ReprOk d := ⟨h.1, Nat.le_trans h.2.1 hn, Nat.le_trans h.2.2 hc⟩
theorem ReprOk.row {r : List Int} (h : ∀ n ∈ r, 0 ≤ n ∧ n < 2 ^ 250) (hl : r.length ≤ 40) : ReprOk (rowDt r) := .of (Sh.row h hl) (by decide) (by decide)
theorem ReprOk.bool (b : Bool) : ReprOk (.bool b) := .of (Sh.bool b) (by decide) (by decide)
theorem ReprOk.word {x : Str} (h : (reprText x).length ≤ 1000) : ReprOk (.str x) := .of (Sh.str x h) (by decide) (by decide)
theorem Dd.row {H : Hp} {a : Addr} {r : List Int} (e : H a = some (.tup (r.map V.int))) : Dd H (.ref a) (rowDt r) := .tup e (ddIntsG r)
/-- repr's rule at hand -/
abbrev rRepr : List V → Hp → VK → Prop := fun xs H Q => ∃ x d, xs = [x] ∧ Dd H x d ∧ d.showable = true ∧ d.depth ≤ 60 ∧ d.shown.length ≤ sizeLine ∧ Q (.str d.shown) H
end MG

/-! MJe: data whose ints are small, its repr bounded; the heap without what is changed -/
namespace MG
open PySem PySem.Spec PyProof.Rows L2
mutual
/-- every int in it is small -/
def sm : PyData → Bool
  | .int i => decide (i ≤ 1000)
  | .tuple ds => smA ds
  | .list ds => smA ds
  | _ => true
def smA : List PyData → Bool
  | [] => true
  | d :: ds => sm d && smA ds
end
theorem smA_of : ∀ {ds : List PyData}, (∀ d ∈ ds, sm d = true) → smA ds = true
  | [], _ => rfl
  | d :: ds, h => by
    rw [smA, h d List.mem_cons_self, smA_of fun e he => h e (List.mem_cons_of_mem _ he)]
    rfl
theorem smA_get : ∀ {ds : List PyData}, smA ds = true → ∀ d ∈ ds, sm d = true
  | d :: ds, h, e, he => by
    rw [smA, Bool.and_eq_true] at h
    rcases List.mem_cons.mp he with rfl | he
    · exact h.1
    · exact smA_get h.2 e he
/-- v is data in H: at most n deep, its repr at most c signs, its ints small -/
def Db (H : Hp) (n c : Nat) (v : V) : Prop := ∃ d, Dd H v d ∧ d.showable = true ∧ d.depth ≤ n ∧ d.shown.length ≤ c ∧ sm d = true
theorem Db.same {H H' : Hp} {n c : Nat} {v : V} (s : Same H H') (h : Db H n c v) : Db H' n c v := by
  obtain ⟨d, a, b⟩ := h
  exact ⟨d, a.same s, b⟩
theorem Db.le {H : Hp} {n c n' c' : Nat} {v : V} (h : Db H n c v) (hn : n ≤ n') (hc : c ≤ c') : Db H n' c' v := by
  obtain ⟨d, a, b, e, f, g⟩ := h
  exact ⟨d, a, b, Nat.le_trans e hn, Nat.le_trans f hc, g⟩
theorem Db.non {H : Hp} : Db H 0 400 .non := ⟨.none, .non, rfl, Nat.le_refl _, by decide +kernel, rfl⟩
theorem Db.bl {H : Hp} (b : Bool) : Db H 0 400 (.bl b) := ⟨.bool b, .bl b, rfl, Nat.le_refl _, by cases b <;> decide +kernel, rfl⟩
theorem Db.int {H : Hp} {i : Int} (h : i.natAbs ≤ 1000) : Db H 0 400 (.int i) := by
  obtain ⟨d, a, b, e, f⟩ := Da.int (H := H) (i := i) (Nat.lt_of_le_of_lt h (by decide))
  cases a
  exact ⟨_, .int i, b, e, Nat.le_trans f (by decide), decide_eq_true (by omega)⟩
theorem Db.str {H : Hp} (x : Str) (h : (reprText x).length ≤ 400) : Db H 0 400 (.str x) := ⟨.str x, .str x, rfl, Nat.le_refl _, h, rfl⟩
theorem dbs {H : Hp} {n c : Nat} : ∀ {xs : List V}, (∀ x ∈ xs, Db H n c x) →
    ∃ ds, DdAll H xs ds ∧ PyData.showableAll ds = true ∧ PyData.depthAll ds ≤ n ∧ piled (PyData.shownAll ds) ≤ xs.length * (c + 2) ∧ smA ds = true
  | [], _ => ⟨[], .nil, rfl, Nat.zero_le _, by rw [PyData.shownAll, piled_nil]; exact Nat.zero_le _, rfl⟩
  | x :: xs, h => by
    obtain ⟨d, a, b, e, f, g⟩ := h x List.mem_cons_self
    obtain ⟨ds, a2, b2, e2, f2, g2⟩ := dbs (xs := xs) fun y hy => h y (List.mem_cons_of_mem _ hy)
    refine ⟨d :: ds, .cons a a2, ?_, ?_, ?_, ?_⟩
    · rw [PyData.showableAll, b, b2]; rfl
    · rw [PyData.depthAll]; exact Nat.max_le.mpr ⟨e, e2⟩
    · rw [PyData.shownAll, piled_cons, List.length_cons, Nat.add_mul, Nat.one_mul]
      omega
    · rw [smA, g, g2]; rfl
theorem Db.tup {H : Hp} {n c m : Nat} {a : Addr} {xs : List V} (e : H a = some (.tup xs)) (h : ∀ x ∈ xs, Db H n c x) (hm : xs.length ≤ m) :
    Db H (n + 1) (m * (c + 2) + 3) (.ref a) := by
  obtain ⟨ds, a1, b1, e1, f1, g1⟩ := dbs h
  refine ⟨.tuple ds, .tup e a1, b1, Nat.succ_le_succ e1, ?_, g1⟩
  have h1 := tupleText_le (PyData.shownAll ds)
  have h2 : xs.length * (c + 2) ≤ m * (c + 2) := Nat.mul_le_mul_right _ hm
  show (tupleText (PyData.shownAll ds)).length ≤ _
  omega
theorem Db.lst {H : Hp} {n c m : Nat} {a : Addr} {xs : List V} (e : H a = some (.lst xs)) (h : ∀ x ∈ xs, Db H n c x) (hm : xs.length ≤ m) :
    Db H (n + 1) (m * (c + 2) + 3) (.ref a) := by
  obtain ⟨ds, a1, b1, e1, f1, g1⟩ := dbs h
  refine ⟨.list ds, .lst e a1, b1, Nat.succ_le_succ e1, ?_, g1⟩
  have h1 := listText_le (PyData.shownAll ds)
  have h2 : xs.length * (c + 2) ≤ m * (c + 2) := Nat.mul_le_mul_right _ hm
  show (listText (PyData.shownAll ds)).length ≤ _
  omega
theorem Db.dic0 {H : Hp} {a : Addr} (e : H a = some (.dK [])) : Db H 1 400 (.ref a) :=
  ⟨.dict [], .dic e .nil, rfl, by decide, by decide +kernel, rfl⟩
/-- the heap without what is changed -/
def rmT (S : List Addr) (H : Hp) : Hp := fun a => if a ∈ S then none else H a
theorem rmT_at {S : List Addr} {H : Hp} {a : Addr} (h : a ∉ S) : rmT S H a = H a := if_neg h
theorem rmT_same (S : List Addr) (H : Hp) : Same (rmT S H) H := fun a o e => by
  unfold rmT at e
  by_cases h : a ∈ S
  · rw [if_pos h] at e; cases e
  · rw [if_neg h] at e; exact e
/-- all but what is in S stays -/
def SO (S : List Addr) (H H' : Hp) : Prop := ∀ a o, a ∉ S → H a = some o → H' a = some o
theorem SO.refl (S : List Addr) (H : Hp) : SO S H H := fun _ _ _ h => h
theorem SO.trans {S : List Addr} {H H1 H2 : Hp} (x : SO S H H1) (y : SO S H1 H2) : SO S H H2 := fun a o n h => y a o n (x a o n h)
theorem SO.of {S : List Addr} {H H' : Hp} (h : Same H H') : SO S H H' := fun a o _ e => h a o e
theorem SO.rm {S : List Addr} {H H' : Hp} (x : SO S H H') : Same (rmT S H) (rmT S H') := fun a o e => by
  unfold rmT at e ⊢
  by_cases h : a ∈ S
  · rw [if_pos h] at e; cases e
  · rw [if_neg h] at e ⊢
    exact x a o h e
end MG

/-! MKa: the order of 2 by an odd number: what the program's parting into primes finds. Pure mathematics. -/
namespace Rn
/-- a prime -/
def Pr (p : Nat) : Prop := 2 ≤ p ∧ ∀ d, d ∣ p → d = 1 ∨ d = p
theorem Pr.two {p : Nat} (h : Pr p) : 2 ≤ p := h.1
theorem Pr.pos {p : Nat} (h : Pr p) : 0 < p := by have := h.1; omega
/-- every number from 2 on has a prime part -/
theorem exists_pr {n : Nat} (h : 2 ≤ n) : ∃ p, Pr p ∧ p ∣ n := by
  induction n using Nat.strongRecOn with
  | ind n ih =>
    by_cases hp : Pr n
    · exact ⟨n, hp, Nat.dvd_refl n⟩
    · have : ∃ d, d ∣ n ∧ d ≠ 1 ∧ d ≠ n := by
        refine Classical.byContradiction fun z => hp ⟨h, fun d hd => ?_⟩
        by_cases h1 : d = 1
        · exact .inl h1
        · by_cases h2 : d = n
          · exact .inr h2
          · exact (z ⟨d, hd, h1, h2⟩).elim
      obtain ⟨d, hd, h1, h2⟩ := this
      have hle := Nat.le_of_dvd (by omega) hd
      have h0 : d ≠ 0 := fun z => by rw [z] at hd; have := Nat.eq_zero_of_zero_dvd hd; omega
      obtain ⟨p, hp, hpd⟩ := ih d (by omega) (by omega)
      exact ⟨p, hp, Nat.dvd_trans hpd hd⟩
theorem Pr.coprime {p n : Nat} (h : Pr p) (hn : ¬ p ∣ n) : Nat.gcd p n = 1 := by
  rcases h.2 _ (Nat.gcd_dvd_left p n) with z | z
  · exact z
  · exact (hn (by rw [← z]; exact Nat.gcd_dvd_right p n)).elim
theorem Pr.dvd_mul {p a b : Nat} (h : Pr p) (hd : p ∣ a * b) : p ∣ a ∨ p ∣ b := by
  by_cases ha : p ∣ a
  · exact .inl ha
  · exact .inr (Nat.Coprime.dvd_of_dvd_mul_left (h.coprime ha) hd)
theorem Pr.dvd_pow {p a n : Nat} (h : Pr p) (hd : p ∣ a ^ n) : p ∣ a := by
  induction n with
  | zero =>
    rw [Nat.pow_zero] at hd
    have := Nat.le_of_dvd (by decide) hd
    have := h.1
    omega
  | succ n ih =>
    rw [Nat.pow_succ] at hd
    rcases h.dvd_mul hd with z | z
    · exact ih z
    · exact z
theorem Pr.eq_of_dvd {p q : Nat} (h : Pr p) (hq : Pr q) (hd : p ∣ q) : p = q := by
  rcases hq.2 p hd with z | z
  · have := h.1; omega
  · exact z
/-- 2 to so many, less 1 -/
def Mo (m : Nat) : Nat := 2 ^ m - 1
theorem mo_pos (m : Nat) : 1 ≤ 2 ^ m := Nat.one_le_two_pow
theorem pow_sub_dvd (x : Nat) (hx : 1 ≤ x) (n : Nat) : x - 1 ∣ x ^ n - 1 := by
  induction n with
  | zero => exact ⟨0, by simp⟩
  | succ n ih =>
    obtain ⟨c, hc⟩ := ih
    have h1 : 1 ≤ x ^ n := Nat.one_le_pow _ _ (by omega)
    refine ⟨c * x + 1, ?_⟩
    have e : x ^ n = (x - 1) * c + 1 := by omega
    rw [Nat.pow_succ, e]
    obtain ⟨y, rfl⟩ : ∃ y, x = y + 1 := ⟨x - 1, by omega⟩
    simp only [Nat.add_sub_cancel]
    have : (y * c + 1) * (y + 1) = y * (c * (y + 1) + 1) + 1 := by grind
    omega
theorem mo_dvd {a b : Nat} (h : a ∣ b) : Mo a ∣ Mo b := by
  obtain ⟨c, rfl⟩ := h
  unfold Mo
  rw [Nat.pow_mul]
  exact pow_sub_dvd _ Nat.one_le_two_pow c
/-- 1 + x + .. -/
def geo (x : Nat) : Nat → Nat
  | 0 => 0
  | n + 1 => geo x n + x ^ n
theorem geo_mul (y n : Nat) : (y + 1) ^ n = y * geo (y + 1) n + 1 := by
  induction n with
  | zero => rfl
  | succ n ih =>
    rw [geo, Nat.pow_succ]
    have : (y + 1) ^ n * (y + 1) = y * (y + 1) ^ n + (y + 1) ^ n := by grind
    have h2 : y * (geo (y + 1) n + (y + 1) ^ n) = y * geo (y + 1) n + y * (y + 1) ^ n := Nat.mul_add _ _ _
    omega
theorem geo_mod (p y n : Nat) (h : p ∣ y) : ∃ c, geo (y + 1) n = n + p * c := by
  obtain ⟨z, rfl⟩ := h
  induction n with
  | zero => exact ⟨0, rfl⟩
  | succ n ih =>
    obtain ⟨c, hc⟩ := ih
    refine ⟨c + z * geo (p * z + 1) n, ?_⟩
    rw [geo, geo_mul, hc]
    grind
/-- one more of a prime -/
theorem lift {p k m : Nat} (hk : 1 ≤ k) (h : p ^ k ∣ Mo m) : p ^ (k + 1) ∣ Mo (m * p) := by
  unfold Mo at h ⊢
  have h1 := mo_pos m
  obtain ⟨y, hy⟩ : ∃ y, 2 ^ m = y + 1 := ⟨2 ^ m - 1, by omega⟩
  rw [Nat.pow_mul, hy, geo_mul, Nat.add_sub_cancel]
  rw [hy, Nat.add_sub_cancel] at h
  have hp : p ∣ y := Nat.dvd_trans ⟨p ^ (k - 1), by rw [← Nat.pow_succ', Nat.succ_eq_add_one, show k - 1 + 1 = k by omega]⟩ h
  obtain ⟨c, hc⟩ := geo_mod p y p hp
  rw [hc, show p + p * c = p * (1 + c) by grind]
  obtain ⟨z, rfl⟩ := h
  exact ⟨z * (1 + c), by rw [Nat.pow_succ]; grind⟩
/-- how many ways to take k of n -/
def ch : Nat → Nat → Nat
  | _, 0 => 1
  | 0, _ + 1 => 0
  | n + 1, k + 1 => ch n k + ch n (k + 1)
theorem ch_mul (n k : Nat) : (k + 1) * ch (n + 1) (k + 1) = (n + 1) * ch n k := by
  induction n generalizing k with
  | zero =>
    cases k with
    | zero => rfl
    | succ k => show (k + 2) * (ch 0 (k + 1) + ch 0 (k + 2)) = 1 * ch 0 (k + 1); rw [ch, ch]; rfl
  | succ n ih =>
    cases k with
    | zero =>
      have := ih 0
      rw [show ch n 0 = 1 from by cases n <;> rw [ch]] at this
      show 1 * (ch (n + 1) 0 + ch (n + 1) 1) = (n + 2) * ch (n + 1) 0
      rw [show ch (n + 1) 0 = 1 from by rw [ch]]
      rw [Nat.zero_add, Nat.one_mul, Nat.mul_one] at this
      omega
    | succ k =>
      have h1 := ih k
      have h2 := ih (k + 1)
      show (k + 2) * (ch (n + 1) (k + 1) + ch (n + 1) (k + 2)) = (n + 2) * ch (n + 1) (k + 1)
      have h3 : ch (n + 1) (k + 1) = ch n k + ch n (k + 1) := by rw [ch]
      have : (n + 1) * ch (n + 1) (k + 1) = (n + 1) * ch n k + (n + 1) * ch n (k + 1) := by rw [h3, Nat.mul_add]
      grind
theorem ch_over {n k : Nat} (h : n < k) : ch n k = 0 := by
  induction n generalizing k with
  | zero =>
    cases k with
    | zero => omega
    | succ k => rw [ch]
  | succ n ih =>
    cases k with
    | zero => omega
    | succ k => rw [ch, ih (by omega), ih (by omega)]
/-- the first m of a row together -/
def row (n : Nat) : Nat → Nat
  | 0 => 0
  | m + 1 => row n m + ch n m
theorem row_succ (n m : Nat) : row (n + 1) (m + 1) = row n m + row n (m + 1) := by
  induction m with
  | zero =>
    show row (n + 1) 0 + ch (n + 1) 0 = row n 0 + (row n 0 + ch n 0)
    rw [show ch (n + 1) 0 = 1 by rw [ch], show ch n 0 = 1 by cases n <;> rw [ch]]
    rfl
  | succ m ih =>
    rw [row, ih]
    show row n m + row n (m + 1) + ch (n + 1) (m + 1) = row n (m + 1) + (row n (m + 1) + ch n (m + 1))
    rw [ch, row]
    omega
theorem row_pow (n : Nat) : row n (n + 1) = 2 ^ n := by
  induction n with
  | zero => rfl
  | succ n ih =>
    rw [row_succ, ih, row, ih, ch_over (by omega), Nat.pow_succ]
    omega
theorem row_mod {p : Nat} (h : Pr p) {m : Nat} (hm : 1 ≤ m) (hm2 : m ≤ p) : ∃ c, row p m = 1 + p * c := by
  induction m with
  | zero => omega
  | succ m ih =>
    by_cases h0 : m = 0
    · subst h0
      refine ⟨0, ?_⟩
      show row p 0 + ch p 0 = _
      rw [show ch p 0 = 1 by cases p <;> rw [ch]]
      rfl
    · obtain ⟨c, hc⟩ := ih (by omega) (by omega)
      obtain ⟨j, rfl⟩ : ∃ j, m = j + 1 := ⟨m - 1, by omega⟩
      obtain ⟨q, rfl⟩ : ∃ q, p = q + 1 := ⟨p - 1, by have := h.1; omega⟩
      have e := ch_mul q j
      have hd : q + 1 ∣ (j + 1) * ch (q + 1) (j + 1) := ⟨_, e⟩
      rcases h.dvd_mul hd with z | z
      · have := Nat.le_of_dvd (by omega) z
        omega
      · obtain ⟨d, hd⟩ := z
        exact ⟨c + d, by rw [row, hc, hd]; grind⟩
/-- Fermat, of 2 -/
theorem fermat {p : Nat} (h : Pr p) (h2 : p ≠ 2) : p ∣ Mo (p - 1) := by
  obtain ⟨c, hc⟩ := row_mod h (m := p) (by have := h.1; omega) (Nat.le_refl p)
  have e := row_pow p
  rw [row, hc] at e
  have e1 : ch p p = 1 := by
    have : ∀ n, ch n n = 1 := by
      intro n
      induction n with
      | zero => rfl
      | succ n ih => rw [ch, ih, ch_over (by omega)]
    exact this p
  rw [e1] at e
  obtain ⟨q, rfl⟩ : ∃ q, p = q + 1 := ⟨p - 1, by have := h.1; omega⟩
  unfold Mo
  rw [Nat.add_sub_cancel]
  have h3 := mo_pos q
  have : q + 1 ∣ 2 * (2 ^ q - 1) := ⟨c, by rw [Nat.pow_succ] at e; omega⟩
  rcases h.dvd_mul this with z | z
  · have := Nat.le_of_dvd (by decide) z
    have := h.1
    omega
  · exact z
theorem euler_pow {p : Nat} (h : Pr p) (h2 : p ≠ 2) (k : Nat) : p ^ (k + 1) ∣ Mo ((p - 1) * p ^ k) := by
  induction k with
  | zero => rw [Nat.pow_zero, Nat.mul_one, Nat.zero_add, Nat.pow_one]; exact fermat h h2
  | succ k ih =>
    have := lift (by omega) ih
    rwa [Nat.mul_assoc, ← Nat.pow_succ] at this
/-- all of a prime taken out -/
theorem take_out {p n : Nat} (h : 2 ≤ p) (hn : 0 < n) : ∃ f m, n = p ^ f * m ∧ ¬ p ∣ m ∧ 0 < m := by
  induction n using Nat.strongRecOn with
  | ind n ih =>
    by_cases hd : p ∣ n
    · obtain ⟨c, rfl⟩ := hd
      have c0 : 0 < c := Nat.pos_of_mul_pos_left hn |> fun z => by
        rcases Nat.eq_zero_or_pos c with y | y
        · rw [y, Nat.mul_zero] at hn; omega
        · exact y
      have lt : c < p * c := by
        have : 2 * c ≤ p * c := Nat.mul_le_mul_right c h
        omega
      obtain ⟨f, m, e, nd, m0⟩ := ih c lt c0
      exact ⟨f + 1, m, by rw [e, Nat.pow_succ]; grind, nd, m0⟩
    · exact ⟨0, n, by rw [Nat.pow_zero, Nat.one_mul], hd, hn⟩
/-- the number's own way: for each prime, parted by it, times one less -/
def tot (many : Nat) : List Nat → Nat
  | [] => many
  | p :: ps => tot (many / p * (p - 1)) ps
theorem tot_mo : ∀ (ps : List Nat) (A R : Nat), 0 < A → 0 < R → (∀ p ∈ ps, Pr p ∧ p ∣ R ∧ p ≠ 2) → ps.Nodup → (∀ p, Pr p → p ∣ R → p ∈ ps) →
    ∃ B, tot (A * R) ps = A * B ∧ 0 < B ∧ R ∣ Mo B
  | [], A, R, hA, hR, _, _, all => by
    have : R = 1 := by
      refine Classical.byContradiction fun z => ?_
      obtain ⟨p, hp, hd⟩ := exists_pr (n := R) (by omega)
      exact List.not_mem_nil (all p hp hd)
    subst this
    exact ⟨1, rfl, by decide, Nat.one_dvd _⟩
  | q :: ps, A, R, hA, hR, hps, nd, all => by
    obtain ⟨hq, hqR, q2⟩ := hps q List.mem_cons_self
    obtain ⟨f, R', e, nq, R0⟩ := take_out (p := q) (n := R) hq.1 hR
    have f1 : 1 ≤ f := by
      rcases Nat.eq_zero_or_pos f with z | z
      · rw [z, Nat.pow_zero, Nat.one_mul] at e
        rw [e] at hqR
        exact (nq hqR).elim
      · exact z
    obtain ⟨g, rfl⟩ : ∃ g, f = g + 1 := ⟨f - 1, by omega⟩
    subst e
    have nd' := List.nodup_cons.mp nd
    have q0 : 0 < q := hq.pos
    have qg : 0 < q ^ g := Nat.pow_pos q0
    have hA' : 0 < A * (q ^ g * (q - 1)) := Nat.mul_pos hA (Nat.mul_pos qg (by have := hq.1; omega))
    obtain ⟨B, eB, B0, dB⟩ := tot_mo ps (A * (q ^ g * (q - 1))) R' hA' R0 (fun p hp => by
        obtain ⟨a, b, c⟩ := hps p (List.mem_cons_of_mem _ hp)
        refine ⟨a, ?_, c⟩
        rcases a.dvd_mul b with z | z
        · have := a.eq_of_dvd hq (a.dvd_pow z)
          subst this
          exact (nd'.1 hp).elim
        · exact z) nd'.2 (fun p hp hd => by
        have := all p hp (Nat.dvd_trans hd (Nat.dvd_mul_left _ _))
        rcases List.mem_cons.mp this with z | z
        · rw [z] at hd; exact (nq hd).elim
        · exact z)
    have step : A * (q ^ (g + 1) * R') / q * (q - 1) = A * (q ^ g * (q - 1)) * R' := by
      rw [show A * (q ^ (g + 1) * R') = q * (A * (q ^ g * R')) by rw [Nat.pow_succ]; grind, Nat.mul_div_cancel_left _ q0]
      grind
    refine ⟨q ^ g * (q - 1) * B, ?_, Nat.mul_pos (Nat.mul_pos qg (by have := hq.1; omega)) B0, ?_⟩
    · rw [tot, step, eB]
      grind
    · have d1 : q ^ (g + 1) ∣ Mo (q ^ g * (q - 1) * B) := Nat.dvd_trans (euler_pow hq q2 g) (mo_dvd ⟨B, by grind⟩)
      have d2 : R' ∣ Mo (q ^ g * (q - 1) * B) := Nat.dvd_trans dB (mo_dvd ⟨q ^ g * (q - 1), by grind⟩)
      exact Nat.Coprime.mul_dvd_of_dvd_of_dvd (Nat.Coprime.pow_left _ (hq.coprime nq)) d1 d2
/-- the least number of doublings that give 1 by rests -/
def Ord (w t : Nat) : Prop := 0 < t ∧ w ∣ Mo t ∧ ∀ d, 0 < d → w ∣ Mo d → t ≤ d
theorem mo_sub {a b : Nat} (h : b ≤ a) : Mo a = 2 ^ b * Mo (a - b) + Mo b := by
  unfold Mo
  have := mo_pos (a - b)
  have := mo_pos b
  have e : 2 ^ a = 2 ^ b * 2 ^ (a - b) := by rw [← Nat.pow_add, show b + (a - b) = a by omega]
  have : 2 ^ b * (2 ^ (a - b) - 1) = 2 ^ b * 2 ^ (a - b) - 2 ^ b := by rw [Nat.mul_sub, Nat.mul_one]
  have : 2 ^ b ≤ 2 ^ b * 2 ^ (a - b) := Nat.le_mul_of_pos_right _ (by omega)
  omega
theorem odd_cop {w : Nat} (h : w % 2 = 1) (n : Nat) : Nat.gcd w (2 ^ n) = 1 := by
  have : Nat.gcd w 2 = 1 := by
    rw [Nat.gcd_comm, Nat.gcd_rec, h]
    rfl
  exact Nat.Coprime.pow_right n this
theorem Ord.dvd {w t d : Nat} (odd : w % 2 = 1) (h : Ord w t) (hd : w ∣ Mo d) : t ∣ d := by
  obtain ⟨t0, ht, least⟩ := h
  induction d using Nat.strongRecOn with
  | ind d ih =>
    rcases Nat.eq_zero_or_pos d with z | d0
    · rw [z]; exact Nat.dvd_zero t
    have le := least d d0 hd
    have e := mo_sub le
    have : w ∣ 2 ^ t * Mo (d - t) := (Nat.dvd_add_iff_left ht).mpr (by rw [← e]; exact hd)
    have := Nat.Coprime.dvd_of_dvd_mul_left (odd_cop odd t) this
    have := ih (d - t) (by omega) this
    have h2 := Nat.dvd_add this (Nat.dvd_refl t)
    rwa [Nat.sub_add_cancel le] at h2
/-- a number that gives 1, and no part of it by a prime does -/
theorem Ord.of {w t : Nat} (odd : w % 2 = 1) (t0 : 0 < t) (ht : w ∣ Mo t) (no : ∀ q, Pr q → q ∣ t → ¬ w ∣ Mo (t / q)) : Ord w t := by
  have ex : ∃ d, 0 < d ∧ w ∣ Mo d ∧ ∀ e, 0 < e → w ∣ Mo e → d ≤ e := by
    have : ∀ n, (∃ d, d ≤ n ∧ 0 < d ∧ w ∣ Mo d) → ∃ d, 0 < d ∧ w ∣ Mo d ∧ ∀ e, 0 < e → w ∣ Mo e → d ≤ e := by
      intro n
      induction n with
      | zero => rintro ⟨d, a, b, _⟩; omega
      | succ n ih =>
        rintro ⟨d, a, b, c⟩
        by_cases h : ∃ d, d ≤ n ∧ 0 < d ∧ w ∣ Mo d
        · exact ih h
        · refine ⟨d, b, c, fun e e0 he => ?_⟩
          refine Classical.byContradiction fun z => h ⟨e, by omega, e0, he⟩
    exact this t ⟨t, Nat.le_refl t, t0, ht⟩
  obtain ⟨d, o⟩ := ex
  have od : Ord w d := o
  obtain ⟨c, hc⟩ := od.dvd odd ht
  by_cases h1 : c = 1
  · rw [hc, h1, Nat.mul_one]; exact od
  · have c0 : c ≠ 0 := fun z => by rw [z, Nat.mul_zero] at hc; omega
    obtain ⟨q, hq, hqc⟩ := exists_pr (n := c) (by omega)
    obtain ⟨m, rfl⟩ := hqc
    have e : t / q = d * m := by
      rw [hc, show d * (q * m) = q * (d * m) by grind, Nat.mul_div_cancel_left _ hq.pos]
    refine (no q hq ⟨d * m, by rw [hc]; grind⟩ ?_).elim
    rw [e]
    exact Nat.dvd_trans o.2.1 (mo_dvd ⟨m, rfl⟩)
theorem mo_iff {w m : Nat} (hw : 2 ≤ w) : w ∣ Mo m ↔ 2 ^ m % w = 1 := by
  unfold Mo
  have := mo_pos m
  constructor
  · rintro ⟨c, hc⟩
    rw [show 2 ^ m = 1 + w * c by omega, Nat.add_mul_mod_self_left, Nat.mod_eq_of_lt (by omega)]
  · intro h
    have := Nat.div_add_mod (2 ^ m) w
    exact ⟨2 ^ m / w, by omega⟩
/-- `ps` are just the primes of n -/
def Prs (n : Nat) (ps : List Nat) : Prop := ps.Nodup ∧ ∀ p, p ∈ ps ↔ Pr p ∧ p ∣ n
theorem Prs.mo {w : Nat} {ps : List Nat} (h : Prs w ps) (odd : w % 2 = 1) : 0 < tot w ps ∧ w ∣ Mo (tot w ps) := by
  obtain ⟨B, e, B0, d⟩ := tot_mo ps 1 w (by decide) (by omega) (fun p hp => ⟨((h.2 p).mp hp).1, ((h.2 p).mp hp).2, fun z => by
    have := ((h.2 p).mp hp).2
    rw [z] at this
    omega⟩) h.1 fun p a b => (h.2 p).mpr ⟨a, b⟩
  rw [Nat.one_mul, Nat.one_mul] at e
  rw [e]
  exact ⟨B0, d⟩
end Rn

/-! MKb: the program's loops in the ring: primes taken out, doublings to one, the ring of two. Pure mathematics. -/
namespace Rn
/-- where the search for primes stands -/
structure PI (n0 : Nat) (ps : List Nat) (q n : Nat) : Prop where
  pos : 0 < n
  dv : n ∣ n0
  q2 : 2 ≤ q
  odd : q = 2 ∨ q % 2 = 1
  no : ∀ d, 2 ≤ d → d < q → ¬ d ∣ n
  all : ∀ p, Pr p → (p ∣ n0 ↔ p ∈ ps ∨ p ∣ n)
  pr : ∀ p ∈ ps, Pr p ∧ p < q
  nd : ps.Nodup
theorem PI.start {n : Nat} (h : 0 < n) : PI n [] 2 n := ⟨h, Nat.dvd_refl n, Nat.le_refl 2, .inl rfl, fun d a b => by omega, fun p _ => ⟨.inr, fun z => z.elim (fun y => nomatch y) id⟩, (fun p hp => nomatch hp), List.nodup_nil⟩
theorem PI.prime {n0 q n : Nat} {ps : List Nat} (I : PI n0 ps q n) (h : q ∣ n) : Pr q := by
  refine ⟨I.q2, fun d hd => ?_⟩
  have hle := Nat.le_of_dvd (by have := I.q2; omega) hd
  have d0 : d ≠ 0 := fun z => by rw [z] at hd; have := Nat.eq_zero_of_zero_dvd hd; have := I.q2; omega
  by_cases h1 : d = 1
  · exact .inl h1
  · by_cases h2 : d = q
    · exact .inr h2
    · exact (I.no d (by omega) (by omega) (Nat.dvd_trans hd h)).elim
theorem pr_one {p : Nat} (h : Pr p) : ¬ p ∣ 1 := fun z => by have := Nat.le_of_dvd (by decide) z; have := h.1; omega
theorem Pr.not_dvd_pow {p q f : Nat} (h : Pr p) (hq : Pr q) (ne : p ≠ q) : ¬ p ∣ q ^ f := fun z => ne (h.eq_of_dvd hq (h.dvd_pow z))
/-- taking one prime out: where it stands within -/
structure PO (q n m : Nat) : Prop where
  m0 : 0 < m
  ex : ∃ f, n = q ^ f * m
theorem PO.start {q n : Nat} (h : 0 < n) : PO q n n := ⟨h, 0, by rw [Nat.pow_zero, Nat.one_mul]⟩
theorem PO.step {q n m : Nat} (h : PO q n m) (hd : m % q = 0) (q2 : 2 ≤ q) : PO q n (m / q) ∧ m / q < m := by
  obtain ⟨m0, f, e⟩ := h
  obtain ⟨c, rfl⟩ := Nat.dvd_of_mod_eq_zero hd
  rw [Nat.mul_div_cancel_left _ (by omega)]
  have c0 : 0 < c := by
    rcases Nat.eq_zero_or_pos c with z | z
    · rw [z, Nat.mul_zero] at m0; omega
    · exact z
  refine ⟨⟨c0, f + 1, by rw [e, Nat.pow_succ]; grind⟩, ?_⟩
  have : 2 * c ≤ q * c := Nat.mul_le_mul_right c q2
  omega
/-- one place of the search further -/
theorem PI.step {n0 q n m : Nat} {ps : List Nat} (I : PI n0 ps q n) (O : PO q n m) (hm : ¬ m % q = 0) :
    PI n0 (if n % q = 0 then ps ++ [q] else ps) (q + if q = 2 then 1 else 2) m := by
  obtain ⟨m0, f, e⟩ := O
  have nq : ¬ q ∣ m := fun z => hm (Nat.mod_eq_zero_of_dvd z)
  have dm : m ∣ n := ⟨q ^ f, by rw [e, Nat.mul_comm]⟩
  have hq := I.q2
  have odd' : (q + if q = 2 then 1 else 2) % 2 = 1 := by
    split
    · omega
    · have := I.odd; omega
  have lt : q < q + if q = 2 then 1 else 2 := by split <;> omega
  refine ⟨m0, Nat.dvd_trans dm I.dv, by omega, .inr odd', fun d d2 dlt hd => ?_, fun p hp => ?_, fun p hp => ?_, ?_⟩
  · by_cases h1 : d < q
    · exact I.no d d2 h1 (Nat.dvd_trans hd dm)
    · by_cases h2 : d = q
      · rw [h2] at hd; exact nq hd
      · have hq2 : q ≠ 2 := fun z => by rw [if_pos z] at dlt; omega
        rw [if_neg hq2] at dlt
        have := I.odd
        exact I.no 2 (by decide) (by omega) (Nat.dvd_trans (Nat.dvd_trans ⟨d / 2, by omega⟩ hd) dm)
  · rw [I.all p hp]
    have key : p ∣ n ↔ (p = q ∧ q ∣ n) ∨ p ∣ m := by
      constructor
      · intro z
        by_cases hpq : p = q
        · exact .inl ⟨hpq, hpq ▸ z⟩
        · rw [e] at z
          rcases hp.dvd_mul z with y | y
          · by_cases hf : f = 0
            · rw [hf, Nat.pow_zero] at y; exact (pr_one hp y).elim
            · have hqn : q ∣ n := by rw [e]; exact Nat.dvd_trans ⟨q ^ (f - 1), by rw [← Nat.pow_succ', Nat.succ_eq_add_one, show f - 1 + 1 = f by omega]⟩ (Nat.dvd_mul_right _ _)
              exact (hp.not_dvd_pow (I.prime hqn) hpq y).elim
          · exact .inr y
      · rintro (⟨rfl, y⟩ | y)
        · exact y
        · exact Nat.dvd_trans y dm
    rw [key]
    by_cases hn : n % q = 0
    · rw [if_pos hn, List.mem_append, List.mem_singleton]
      have := Nat.dvd_of_mod_eq_zero hn
      constructor
      · rintro (a | ⟨a, _⟩ | a)
        · exact .inl (.inl a)
        · exact .inl (.inr a)
        · exact .inr a
      · rintro ((a | a) | a)
        · exact .inl a
        · exact .inr (.inl ⟨a, this⟩)
        · exact .inr (.inr a)
    · rw [if_neg hn]
      constructor
      · rintro (a | ⟨_, a⟩ | a)
        · exact .inl a
        · exact (hn (Nat.mod_eq_zero_of_dvd a)).elim
        · exact .inr a
      · rintro (a | a)
        · exact .inl a
        · exact .inr (.inr a)
  · by_cases hn : n % q = 0
    · rw [if_pos hn] at hp
      rcases List.mem_append.mp hp with h | h
      · exact ⟨(I.pr p h).1, by have := (I.pr p h).2; omega⟩
      · rw [List.mem_singleton] at h
        subst h
        exact ⟨I.prime (Nat.dvd_of_mod_eq_zero hn), lt⟩
    · rw [if_neg hn] at hp
      exact ⟨(I.pr p hp).1, by have := (I.pr p hp).2; omega⟩
  · by_cases hn : n % q = 0
    · rw [if_pos hn]
      refine List.nodup_append.mpr ⟨I.nd, by simp, fun a ha b hb => ?_⟩
      rw [List.mem_singleton] at hb
      have := (I.pr a ha).2
      omega
    · rw [if_neg hn]; exact I.nd
/-- the end of the search -/
theorem PI.fin {n0 q n : Nat} {ps : List Nat} (I : PI n0 ps q n) (h : ¬ q * q ≤ n) : Prs n0 (if 1 < n then ps ++ [n] else ps) := by
  by_cases h1 : 1 < n
  · rw [if_pos h1]
    have hn : Pr n := by
      obtain ⟨p, hp, hd⟩ := exists_pr (n := n) (by omega)
      obtain ⟨m, e⟩ := hd
      have hpq : q ≤ p := by
        refine Classical.byContradiction fun z => I.no p hp.1 (by omega) ⟨m, e⟩
      by_cases hm : m = 1
      · rw [e, hm, Nat.mul_one]; exact hp
      · have m0 : m ≠ 0 := fun z => by rw [z, Nat.mul_zero] at e; omega
        obtain ⟨r, hr, hrd⟩ := exists_pr (n := m) (by omega)
        have hrq : q ≤ r := by
          refine Classical.byContradiction fun z => I.no r hr.1 (by omega) (Nat.dvd_trans hrd ⟨p, by rw [e, Nat.mul_comm]⟩)
        have hrm := Nat.le_of_dvd (by omega) hrd
        have : q * q ≤ p * m := Nat.mul_le_mul hpq (by omega)
        omega
    refine ⟨List.nodup_append.mpr ⟨I.nd, by simp, fun a ha b hb => ?_⟩, fun p => ?_⟩
    · rw [List.mem_singleton] at hb
      subst hb
      intro z
      have ha' := I.pr a ha
      exact I.no a ha'.1.1 ha'.2 (by rw [z]; exact Nat.dvd_refl _)
    · rw [List.mem_append, List.mem_singleton]
      constructor
      · rintro (a | rfl)
        · exact ⟨(I.pr p a).1, (I.all p (I.pr p a).1).mpr (.inl a)⟩
        · exact ⟨hn, I.dv⟩
      · rintro ⟨a, b⟩
        rcases (I.all p a).mp b with z | z
        · exact .inl z
        · exact .inr (a.eq_of_dvd hn z)
  · rw [if_neg h1]
    have e1 : n = 1 := by have := I.pos; omega
    refine ⟨I.nd, fun p => ⟨fun a => ⟨(I.pr p a).1, (I.all p (I.pr p a).1).mpr (.inl a)⟩, ?_⟩⟩
    rintro ⟨a, b⟩
    rcases (I.all p a).mp b with z | z
    · exact z
    · rw [e1] at z; exact (pr_one a z).elim
/-- how far the primes of a number are taken out of it -/
structure DI (w t0 : Nat) (done : List Nat) (t : Nat) : Prop where
  pos : 0 < t
  mo : w ∣ Mo t
  dv : t ∣ t0
  no : ∀ q ∈ done, ¬ (q ∣ t ∧ w ∣ Mo (t / q))
theorem DI.step {w t0 t q : Nat} {done : List Nat} (I : DI w t0 done t) (pr : ∀ p ∈ done, 0 < p) (q2 : 2 ≤ q) (h : q ∣ t) (hm : w ∣ Mo (t / q)) : DI w t0 done (t / q) ∧ t / q < t := by
  obtain ⟨c, rfl⟩ := h
  rw [Nat.mul_div_cancel_left _ (by omega)] at hm ⊢
  have c0 : 0 < c := by
    rcases Nat.eq_zero_or_pos c with z | z
    · have := I.pos; rw [z, Nat.mul_zero] at this; omega
    · exact z
  refine ⟨⟨c0, hm, Nat.dvd_trans ⟨q, by rw [Nat.mul_comm]⟩ I.dv, fun p hp z => I.no p hp ⟨Nat.dvd_trans z.1 ⟨q, by rw [Nat.mul_comm]⟩, ?_⟩⟩, ?_⟩
  · obtain ⟨⟨d, rfl⟩, z2⟩ := z
    have p0 := pr p hp
    rw [Nat.mul_div_cancel_left _ p0] at z2
    rw [show q * (p * d) = p * (d * q) by grind, Nat.mul_div_cancel_left _ p0]
    exact Nat.dvd_trans z2 (mo_dvd ⟨q, rfl⟩)
  · have : 2 * c ≤ q * c := Nat.mul_le_mul_right c q2
    omega
theorem DI.next {w t0 t q : Nat} {done : List Nat} (I : DI w t0 done t) (h : ¬ (q ∣ t ∧ w ∣ Mo (t / q))) : DI w t0 (done ++ [q]) t :=
  ⟨I.pos, I.mo, I.dv, fun p hp => by
    rcases List.mem_append.mp hp with z | z
    · exact I.no p z
    · rw [List.mem_singleton] at z
      rw [z]; exact h⟩
theorem DI.fin {w t0 t : Nat} {ps : List Nat} (odd : w % 2 = 1) (P : Prs t0 ps) (I : DI w t0 ps t) : Ord w t :=
  Ord.of odd I.pos I.mo fun q hq hd z => I.no q ((P.2 q).mpr ⟨hq, Nat.dvd_trans hd I.dv⟩) ⟨hd, z⟩
/-- the primes' own way of making less stays below -/
theorem tot_le : ∀ (ps : List Nat) (m : Nat), tot m ps ≤ m
  | [], m => Nat.le_refl m
  | p :: ps, m => by
    rw [tot]
    refine Nat.le_trans (tot_le ps _) ?_
    refine Nat.le_trans (Nat.mul_le_mul_left _ (Nat.sub_le p 1)) ?_
    exact Nat.div_mul_le_self m p
theorem tot_app (m : Nat) (ps : List Nat) (q : Nat) : tot m (ps ++ [q]) = tot m ps / q * (q - 1) := by
  induction ps generalizing m with
  | nil => rfl
  | cons p ps ih => exact ih _
/-- the ring of two, p and q: the least number of doublings by rests behind which p is there again -/
def Again (p s k : Nat) : Prop := p * 2 ^ k % s = p % s
theorem again_iff {p s g p' s' k : Nat} (g0 : 0 < g) (ep : p = g * p') (es : s = g * s') (cop : Nat.gcd s' p' = 1) : Again p s k ↔ s' ∣ Mo k := by
  unfold Again Mo
  subst ep es
  have h1 := mo_pos k
  have e : g * p' * 2 ^ k = g * p' * (2 ^ k - 1) + g * p' := by
    obtain ⟨y, hy⟩ : ∃ y, 2 ^ k = y + 1 := ⟨2 ^ k - 1, by omega⟩
    rw [hy, Nat.add_sub_cancel, Nat.mul_add, Nat.mul_one]
  rw [e]
  constructor
  · intro h
    have h2 : g * s' ∣ g * p' * (2 ^ k - 1) := by
      have := Nat.sub_mod_eq_zero_of_mod_eq (m := g * p' * (2 ^ k - 1) + g * p') (n := g * p') (k := g * s') h
      rw [Nat.add_sub_cancel] at this
      exact Nat.dvd_of_mod_eq_zero this
    rw [Nat.mul_assoc] at h2
    exact Nat.Coprime.dvd_of_dvd_mul_left cop (Nat.dvd_of_mul_dvd_mul_left g0 h2)
  · rintro ⟨c, hc⟩
    rw [hc, show g * p' * (s' * c) + g * p' = g * p' + g * s' * (p' * c) by grind, Nat.add_mul_mod_self_left]
/-- what a ring is told by: none, of an even number of shares; else its order -/
def RingOf (p q : Nat) : Option Nat → Prop
  | none => ∀ k, 0 < k → ¬ Again p (p + q) k
  | some t => 0 < t ∧ Again p (p + q) t ∧ ∀ k, 0 < k → Again p (p + q) k → t ≤ k
theorem ring_parts {p q : Nat} (p0 : 0 < p) (q0 : 0 < q) : ∃ g p' q', 0 < g ∧ p = g * p' ∧ q = g * q' ∧ Nat.gcd p' q' = 1 ∧ g = Nat.gcd p q ∧ 0 < p' ∧ 0 < q' ∧ (p + q) / Nat.gcd p q = p' + q' ∧ Nat.gcd (p' + q') p' = 1 := by
  have g0 : 0 < Nat.gcd p q := Nat.gcd_pos_of_pos_left q p0
  obtain ⟨p', ep⟩ := Nat.gcd_dvd_left p q
  obtain ⟨q', eq⟩ := Nat.gcd_dvd_right p q
  have pp : 0 < p' := by
    rcases Nat.eq_zero_or_pos p' with z | z
    · rw [z, Nat.mul_zero] at ep; omega
    · exact z
  have qp : 0 < q' := by
    rcases Nat.eq_zero_or_pos q' with z | z
    · rw [z, Nat.mul_zero] at eq; omega
    · exact z
  have cop : Nat.gcd p' q' = 1 := by
    have : Nat.gcd p q * Nat.gcd p' q' = Nat.gcd p q * 1 := by
      rw [← Nat.gcd_mul_left, ← ep, ← eq, Nat.mul_one]
    exact Nat.eq_of_mul_eq_mul_left g0 this
  have es : p + q = Nat.gcd p q * (p' + q') := by rw [Nat.mul_add, ← ep, ← eq]
  refine ⟨Nat.gcd p q, p', q', g0, ep, eq, cop, rfl, pp, qp, ?_, ?_⟩
  · rw [es, Nat.mul_div_cancel_left _ g0]
  · rw [Nat.gcd_comm, Nat.gcd_rec] 
    have : Nat.gcd p' (p' + q') = Nat.gcd p' q' := by rw [Nat.add_comm]; exact Nat.gcd_add_self_right p' q'
    rw [← Nat.gcd_rec]
    rw [this]
    exact cop
theorem ring_even {p q : Nat} (p0 : 0 < p) (q0 : 0 < q) (h : (p + q) / Nat.gcd p q % 2 = 0) : RingOf p q none := by
  obtain ⟨g, p', q', g0, ep, eq, cop, eg, pp, qp, es, cop2⟩ := ring_parts p0 q0
  intro k k0 ha
  rw [es] at h
  have := (again_iff (k := k) (s := p + q) g0 ep (by rw [ep, eq, ← Nat.mul_add]) cop2).mp ha
  have h2 : 2 ∣ Mo k := Nat.dvd_trans (Nat.dvd_of_mod_eq_zero h) this
  unfold Mo at h2
  obtain ⟨j, rfl⟩ : ∃ j, k = j + 1 := ⟨k - 1, by omega⟩
  have := mo_pos j
  rw [Nat.pow_succ] at h2
  omega
theorem ring_odd {p q t : Nat} (p0 : 0 < p) (q0 : 0 < q) (h : Ord ((p + q) / Nat.gcd p q) t) : RingOf p q (some t) := by
  obtain ⟨g, p', q', g0, ep, eq, cop, eg, pp, qp, es, cop2⟩ := ring_parts p0 q0
  rw [es] at h
  have iff : ∀ k, Again p (p + q) k ↔ p' + q' ∣ Mo k := fun k => again_iff g0 ep (by rw [ep, eq, ← Nat.mul_add]) cop2
  exact ⟨h.1, (iff t).mpr h.2.1, fun k k0 hk => h.2.2 k k0 ((iff k).mp hk)⟩
end Rn

/-! MKc: a while by a measure, its test read as it stands -/
namespace MG
open PySem PySem.Spec PyProof.Rows L2
/-- one goal reached by several ways -/
theorem waysTo {A B : Prop} (f : A → B) (a : A) : B := f a
theorem waysIf (C : Prop) {A B : Prop} (f : (C → A) → B) (a : C → A) : B := f a
theorem while_go {c : TT} {tb : TS} {D : Ends} {σ : L2.St} {H : Hp} (Pv : L2.St → Hp → Prop) (μ : L2.St → Hp → Nat) (h0 : Pv σ H)
    (hs : ∀ σ H, Pv σ H → c σ H fun b H1 => if b = true then ∃ N : L2.St → Hp → Prop, (∀ σ' H', N σ' H' → ∃ m', m' < μ σ H ∧ m' = μ σ' H' ∧ Pv σ' H') ∧ tb { D with nx := N, ct := N, bk := D.nx } σ H1 else D.nx σ H1) : tWhile c tb D σ H :=
  ⟨fun m σ H => m = μ σ H ∧ Pv σ H, ⟨_, rfl, h0⟩, fun m σ H ⟨e, p⟩ => by subst e; exact hs σ H p⟩
end MG
namespace MG
open PySem PySem.Spec PyProof.Rows L2
theorem units65 {k : Nat} {A : Around} (r : Room k A) : A.units + 65 < cLine := by have := r.un; omega
end MG

/-! MLb: rows in the heap, one behind the other; what comes of one row -/
namespace MG
open PySem PySem.Spec PyProof.Rows L2
/-- rows at these places -/
def RsA (H : Hp) (ts : List Addr) (R : List (List Int)) : Prop := ts.length = R.length ∧ ∀ (i : Nat) (t : Addr) (r : List Int), ts[i]? = some t → R[i]? = some r → H t = some (.tup (r.map V.int))
theorem RsA.mono {H H' : Hp} {ts : List Addr} {R : List (List Int)} (h : RsA H ts R) (s : ∀ a xs, H a = some (.tup xs) → H' a = some (.tup xs)) : RsA H' ts R := ⟨h.1, fun i t r a b => s _ _ (h.2 i t r a b)⟩
theorem RsA.nil {H : Hp} : RsA H [] [] := ⟨rfl, fun i t r h => nomatch h⟩
theorem RsA.app {H : Hp} {ts us : List Addr} {R S : List (List Int)} (h : RsA H ts R) (k : RsA H us S) : RsA H (ts ++ us) (R ++ S) := ⟨by rw [List.length_append, List.length_append, h.1, k.1], fun i t r a c => by
  by_cases hi : i < ts.length
  · rw [List.getElem?_append_left hi] at a
    rw [List.getElem?_append_left (by rw [← h.1]; exact hi)] at c
    exact h.2 i t r a c
  · rw [List.getElem?_append_right (by omega)] at a
    rw [List.getElem?_append_right (by rw [← h.1]; omega), ← h.1] at c
    exact k.2 _ t r a c⟩
theorem RsA.one {H : Hp} {t : Addr} {r : List Int} (e : H t = some (.tup (r.map V.int))) : RsA H [t] [r] := ⟨rfl, fun i t' r' a c => by
  cases i with
  | zero => cases a; cases c; exact e
  | succ n => cases a⟩
/-- what comes of one by one deed -/
def cds (e : Ent) : List Ent := (dl e.1).map fun c => (dd e.1 c, e.2 ++ [c])
theorem cnd_snoc (W : List Ent) (e : Ent) : cnd (W ++ [e]) = cnd W ++ cds e := by
  unfold cnd
  rw [List.flatMap_append, List.flatMap_cons, List.flatMap_nil, List.append_nil]
  rfl
theorem pw_pre {α : Type} {R : α → α → Prop} {A B : List α} {x : α} (h : (A ++ x :: B).Pairwise R) : ∀ e ∈ A, R e x := fun e he => (List.pairwise_append.mp h).2.2 e he x List.mem_cons_self
theorem take_snoc {α : Type} {l : List α} {n : Nat} {x : α} (h : l[n]? = some x) : l.take (n + 1) = l.take n ++ [x] := by
  rw [List.take_add_one, h]
  rfl
theorem take_split {α : Type} {l : List α} {n : Nat} {x : α} (h : l[n]? = some x) : l = l.take n ++ x :: l.drop (n + 1) := by
  obtain ⟨hn, hx⟩ := List.getElem?_eq_some_iff.mp h
  subst hx
  rw [List.getElem_cons_drop, List.take_append_drop]
/-- tuples stay -/
def KT (H H' : Hp) : Prop := ∀ c xs, H c = some (.tup xs) → H' c = some (.tup xs)
theorem KT.trans {H H1 H2 : Hp} (x : KT H H1) (y : KT H1 H2) : KT H H2 := fun c xs e => y c xs (x c xs e)
theorem KT.of_same {H H' : Hp} (h : Same H H') : KT H H' := fun c xs e => h c _ e
theorem KT.lst {H : Hp} {l : Addr} {xs ys : List V} (e : H l = some (.lst xs)) : KT H (upd H l (.lst ys)) := fun c zs h => by
  rw [upd_ne (fun z => by rw [z, e] at h; cases h)]
  exact h
theorem KT.dct {H : Hp} {l : Addr} {xs ys : List (List Key × V)} (e : H l = some (.dT xs)) : KT H (upd H l (.dT ys)) := fun c zs h => by
  rw [upd_ne (fun z => by rw [z, e] at h; cases h)]
  exact h
theorem PrAt.keep {H H' : Hp} {ts : List Addr} {cs : List (Int × Int)} (h : PrAt H ts cs) (k : KT H H') : PrAt H' ts cs := h.mono fun a o ⟨x, y, e⟩ h => by subst e; exact k _ _ h
theorem CameAt.lst {s : List Int} {E : List Ent} {H : Hp} {D l : Addr} {xs ys : List V} (h : CameAt s H D E) (e : H l = some (.lst xs)) : CameAt s (upd H l (.lst ys)) D E := by
  refine h.mono (KT.lst e) (upd_ne ?_)
  intro z
  obtain ⟨vs, _, h2, _⟩ := h.ex
  rw [z, e] at h2
  cases h2
theorem CameAt.ne {s : List Int} {E : List Ent} {H : Hp} {D p : Addr} (h : CameAt s H D E) (n : H p = none) : D ≠ p := by
  obtain ⟨vs, _, h2, _⟩ := h.ex
  exact ne_of_none h2 n
theorem CameAt.len {s : List Int} {E : List Ent} {H : Hp} {D : Addr} (h : CameAt s H D E) : ∃ kvs, H D = some (.dT kvs) ∧ kvs.length = E.length := by
  obtain ⟨vs, h1, h2, _⟩ := h.ex
  exact ⟨_, h2, dV_len h1⟩
end MG
namespace MG
open PySem PySem.Spec PyProof.Rows L2
theorem mid_re {s : List Int} {n : Nat} {E W W' E' N : List Ent} (L : Lev s n E W) (M : Mdl E (cnd W') E' N) (sub : ∀ e ∈ W', e ∈ W) : ∀ e ∈ E', Re s e.1 := by
  have old : ∀ e ∈ E, Re s e.1 := fun e he => wk_re .refl (L.ls e he).1
  intro e he
  rw [M.eq, List.mem_append] at he
  rcases he with he | he
  · exact old e he
  · obtain ⟨f, hf, he⟩ := List.mem_flatMap.mp (M.sub e he).1
    obtain ⟨c, hc, rfl⟩ := List.mem_map.mp he
    obtain ⟨i, j, rfl, m⟩ := dl_may hc
    exact .step (old f (L.wE f (sub f hf)).1) m
theorem few_came {s : List Int} {E : List Ent} (nn : ∀ n ∈ s, 0 ≤ n) (hl : s.length ≤ 4) (hs : s.sum ≤ 40) (re : ∀ e ∈ E, Re s e.1) (nd : (E.map Prod.fst).Nodup) : E.length ≤ 41 ^ 4 := by
  have h := few_rowsB (B := 40) (n := s.length) nd fun o ho => by
    obtain ⟨e, he, rfl⟩ := List.mem_map.mp ho
    have k := (re e he).keeps nn
    refine ⟨k.1, fun x hx => ⟨k.2.2 x hx, ?_⟩⟩
    have := mem_le_sumG k.2.2 x hx
    have := k.2.1
    omega
  rw [List.length_map] at h
  exact Nat.le_trans h (Nat.pow_le_pow_right (by decide) hl)
end MG
namespace MG
open PySem PySem.Spec PyProof.Rows L2
theorem sub_len : ∀ {l m : List Nat}, l.Nodup → (∀ x ∈ l, x ∈ m) → l.length ≤ m.length
  | [], _, _, _ => Nat.zero_le _
  | x :: l, m, nd, h => by
    rw [List.nodup_cons] at nd
    have hx := h x List.mem_cons_self
    have ih := sub_len (l := l) (m := m.erase x) nd.2 fun y hy => (List.mem_erase_of_ne (fun z => nd.1 (by rw [← z]; exact hy))).mpr (h y (List.mem_cons_of_mem _ hy))
    have h1 := List.length_erase_of_mem hx
    have h2 := List.length_pos_of_mem hx
    rw [List.length_cons]
    omega
theorem CameAt.ent {s : List Int} {E : List Ent} {H : Hp} {D : Addr} (h : CameAt s H D E) (nd : (E.map Prod.fst).Nodup) {e : Ent} (he : e ∈ E) : ∃ kvs v, H D = some (.dT kvs) ∧ valV kvs (kR e.1) = some v ∧ EntV s E H e v := by
  obtain ⟨vs, h1, h2, h3⟩ := h.ex
  obtain ⟨i, v, hi, hv, hval⟩ := dV_some h1 he nd
  exact ⟨_, v, h2, hval, h3 i e v hi hv⟩
theorem CameAt.lens {s : List Int} {E : List Ent} {H : Hp} {D : Addr} (h : CameAt s H D E) (nd : (E.map Prod.fst).Nodup) : ∀ (m : Nat) {e : Ent}, e ∈ E → e.2.length = m → ∀ k ≤ m, k ∈ E.map fun e => e.2.length := by
  intro m
  induction m with
  | zero =>
    intro e he hl k hk
    exact List.mem_map.mpr ⟨e, he, by omega⟩
  | succ m ih =>
    intro e he hl k hk
    by_cases z : k = m + 1
    · exact List.mem_map.mpr ⟨e, he, by omega⟩
    · obtain ⟨_, v, _, _, ev⟩ := h.ent nd he
      rcases ev with ⟨ev, _⟩ | ⟨f, c, _, _, _, hf, hc, _⟩
      · subst ev
        exact nomatch hl
      · refine ih hf ?_ k (by omega)
        rw [hc, List.length_append, List.length_singleton] at hl
        omega
theorem CameAt.way_len {s : List Int} {E : List Ent} {H : Hp} {D : Addr} (h : CameAt s H D E) (nd : (E.map Prod.fst).Nodup) {e : Ent} (he : e ∈ E) : e.2.length < E.length := by
  have := sub_len (l := List.range (e.2.length + 1)) (m := E.map fun e => e.2.length) List.nodup_range fun k hk => h.lens nd _ he rfl k (by have := List.mem_range.mp hk; omega)
  rw [List.length_range, List.length_map] at this
  omega
theorem PrAt.rev {H : Hp} {ts : List Addr} {cs : List (Int × Int)} (h : PrAt H ts cs) : PrAt H ts.reverse cs.reverse := by
  unfold PrAt at h ⊢
  rw [List.map_reverse, List.map_reverse, h]
end MG

namespace K84
open PySem PySem.Spec PyProof.Rows L2 MG
abbrev sAw : Stmt := topS 40
abbrev nAw : List Str := ["_law_places_here", "_law_most", "_law_found", "_law_turn", "_law_longer", "_law_wishes", "_law_wish"]
theorem scAw : FnScope ["_law_places_here", "_law_most", "_law_found", "_law_turn", "_law_longer", "_law_wishes", "_law_wish"] ["_law_places_here", "_law_most"] (defScope sAw) := ⟨rfl, rfl, rfl, by decide +kernel, rfl, by decide +kernel, by decide +kernel⟩
theorem cat_anyW {K : PySem.W.Frag} {H : Hp} {a b : Addr} {xs ys : List V} {Q : VK} (ea : H a = some (.tup xs)) (eb : H b = some (.tup ys)) (hl : xs.length + ys.length ≤ sizeLine)
    (q : ∀ p H', Same H H' → H' p = some (.tup (xs ++ ys)) → Q (.ref p) H') : rCatA K (.ref a) (.ref b) H Q :=
  ⟨a, b, xs, ys, rfl, rfl, SqT.of ea, SqT.of eb, hl, fun z => q b H (.refl H) (by rw [z]; exact eb), fun _ z => q a H (.refl H) (by rw [z, List.append_nil]; exact ea), fun _ _ p np => q p _ (same_upd np) upd_same⟩
/-- rows of wishes stand there -/
def WsA (H : Hp) (n : Nat) (ts : List Addr) : Prop := ∀ t ∈ ts, ∃ ws : List (Option Int), H t = some (.tup (ws.map wV)) ∧ ws.length = n ∧ ∀ v, some v ∈ ws → 0 ≤ v
theorem WsA.mono {H H' : Hp} {n : Nat} {ts : List Addr} (h : WsA H n ts) (k : ∀ a xs, H a = some (.tup xs) → H' a = some (.tup xs)) : WsA H' n ts := fun t ht => by
  obtain ⟨ws, e, r⟩ := h t ht
  exact ⟨ws, k _ _ e, r⟩
theorem WsA.app {H : Hp} {n : Nat} {ts us : List Addr} (h : WsA H n ts) (k : WsA H n us) : WsA H n (ts ++ us) := fun t ht => (List.mem_append.mp ht).elim (h t) (k t)
section
variable {P : Program} {w : World} {K : PySem.W.Frag} {mg : Str → Option Value} {base : Heap}
/-- all rows of wishes of so many places -/
def spAw : Sp := fun vs H Q _ => ∃ (n m : Nat), vs = [.int (n : Nat), .int (m : Nat)] ∧ n ≤ 4 ∧ m ≤ 10 ∧
  ∀ p H' ts, Same H H' → H' p = some (.lst (ts.map V.ref)) → WsA H' n ts → Q (.ref p) H'
theorem ok_aw {f : Addr} {fd : FuncData} {k : Nat} (F : Fun K "_law_all_wishes" "_law_all_wishes" sAw f fd) (m_range : mg "range" = none) (m_list : mg "list" = none) : FnOk P w K mg base CX0 (k + 1) f fd ["_law_places_here", "_law_most"] spAw := by
  refine F.ok scAw (fun vs H Q E h => ?_) (fun cdv A outer s H vs Q E hr h => ?_)
  · obtain ⟨n, m, rfl, _⟩ := h
    rfl
  · obtain ⟨n, m, rfl, n4, m10, want⟩ := h
    refine ⟨_, pss_cons (ps_set (i := 2) scAw.nd rfl (.inl rfl) (pe_lst (pa_cons (pe_tup pa_nil) pa_nil)))
      (pss_cons (ps_for PassesOwn.never rfl (pi_range1 (by rfl) m_range (pa_cons (pv 0) pa_nil)) (pg_name (i := 3) scAw.nd rfl (.inl rfl)) (pss_cons (ps_set (i := 4) scAw.nd rfl (.inl rfl) (pe_lst pa_nil))
      (pss_cons (ps_for PassesOwn.never rfl (pi_list (pv 2)) (pg_name (i := 5) scAw.nd rfl (.inr rfl)) (pss_one (ps_expr (pe_bm PySem.F.plainAttrs_list PySem.F.slot_list_extend PySem.F.type_list_extend mt_extend (pv 4) (pa_cons (pe_lc (own := [("_law_wish", 6)]) (g := gName 6) (tt := tYes) (te := tOp (rCatA K) (tVar 5) (tTup (tCons (tVar 6) tNil))) rfl scAw.nd (pi_list (pe_op op_cat (pe_lst (pa_cons pe_non pa_nil)) (pe_listRg rfl (by rfl) m_list (prg_1 (by rfl) m_range (pe_op op_add (pv 1) pe_int))))) (blkOk_by (N := nAw) (sc := defScope sAw) (by decide +kernel)) (fun _ _ _ _ _ => pg_name (i := 6) scAw.nd rfl (Or.inl rfl)) (fun _ _ _ _ _ => pts_nil) (fun _ _ _ _ _ => pe_op op_catA (pv 5) (pe_tup (pa_cons (pv 6) pa_nil)))) pa_nil)))))
      (pss_one (ps_set (i := 2) scAw.nd rfl (.inl rfl) (pv 4))))))
      (pss_one (ps_ret (pv 2)))), ?_⟩
    have pw : ∀ i, i ≤ n → (m + 2) ^ i ≤ 20736 := fun i hi => Nat.le_trans (Nat.pow_le_pow_left (show m + 2 ≤ 12 by omega) i) (Nat.le_trans (Nat.pow_le_pow_right (by decide) (show i ≤ 4 by omega)) (by decide))
    refine ⟨by show 0 ≤ sizeLine; decide, fun t0 nt0 => ?_⟩
    have s1 : Same H (upd H t0 (.tup [])) := same_upd nt0
    have et0 : upd H t0 (.tup []) t0 = some (.tup (([] : List (Option Int)).map wV)) := upd_same
    generalize upd H t0 (.tup []) = H1 at s1 et0 ⊢
    refine ⟨by show 1 ≤ sizeLine; decide, fun l0 nl0 => ?_⟩
    have s2 : Same H (upd H1 l0 (.lst [.ref t0])) := s1.trans (same_upd nl0)
    have el0 : upd H1 l0 (.lst [.ref t0]) l0 = some (.lst (([t0] : List Addr).map V.ref)) := upd_same
    have et0' := same_upd nl0 (o := .lst [.ref t0]) _ _ et0
    generalize upd H1 l0 (.lst [.ref t0]) = H2 at s2 el0 et0' ⊢
    refine ⟨_, rfl, _, rfl, by omega, by omega, ?_⟩
    refine for_range (lo := 0) (n := (n : Int).toNat) (fun i σ G => ∃ (l : Addr) (ts : List Addr) (y3 y4 y5 y6 : Option V), σ = [some (.int (n : Nat)), some (.int (m : Nat)), some (.ref l), y3, y4, y5, y6] ∧ Same H G ∧ G l = some (.lst (ts.map V.ref)) ∧ WsA G i ts ∧ ts.length ≤ (m + 2) ^ i) ⟨l0, [t0], _, _, _, _, rfl, s2, el0, fun t ht => by
      rw [List.mem_singleton.mp ht]
      exact ⟨[], et0', rfl, fun v hv => nomatch hv⟩, by rw [Nat.pow_zero]; exact Nat.le_refl 1⟩ ?_ ?_
    rotate_left
    · rintro σ G ⟨l, ts, y3, y4, y5, y6, rfl, sG, el, hW, _⟩
      exact ⟨_, rfl, want l G ts sG el (by rw [Int.toNat_natCast] at hW; exact hW)⟩
    · rintro i σ G hi ⟨l, ts, y3, y4, y5, y6, rfl, sG, el, hW, hl⟩
      have hi' : i + 1 ≤ n := by omega
      have p0 := pw i (by omega)
      have p1 := pw (i + 1) hi'
      refine ⟨by show 0 ≤ sizeLine; decide, fun l2 nl2 => ?_⟩
      have sG2 : Same G (upd G l2 (.lst [])) := same_upd nl2
      have e2 : upd G l2 (.lst []) l2 = some (.lst (([] : List Addr).map V.ref)) := upd_same
      have ll2 : l ≠ l2 := ne_of_none el nl2
      have nH2 : H l2 = none := sG.free nl2
      generalize upd G l2 (.lst []) = G2 at sG2 e2 ⊢
      have el2 := sG2 _ _ el
      refine ⟨_, rfl, l, rfl, ⟨_, SqL.of el2⟩, ?_⟩
      refine for_list (K := K) (a := l) (xs := ts.map V.ref) (fun c σ G' => ∃ (us : List Addr) (y5 y6 : Option V), σ = [some (.int (n : Nat)), some (.int (m : Nat)), some (.ref l), some (.int (0 + (i : Int))), some (.ref l2), y5, y6] ∧ (∀ c o, c ≠ l2 → G c = some o → G' c = some o) ∧ Same H G' ∧ G' l2 = some (.lst (us.map V.ref)) ∧ WsA G' (i + 1) us ∧ us.length = c * (m + 2)) ?_ ?_ ?_ ?_
      · exact ⟨[], _, _, rfl, fun c o _ h => sG2 _ _ h, sG.trans sG2, e2, (fun t ht => nomatch ht), by rw [Nat.zero_mul]; rfl⟩
      · rintro c σ G' _ ⟨us, y5, y6, rfl, kp, _, _, _⟩
        exact SqL.of (kp _ _ ll2 el)
      · rintro c x σ G' hx ⟨us, y5, y6, rfl, kp, sG', eus, hus, hul⟩
        rw [List.getElem?_map] at hx
        obtain ⟨t, ht, rfl⟩ := Option.map_eq_some_iff.mp hx
        have hct : c < ts.length := (List.getElem?_eq_some_iff.mp ht).1
        obtain ⟨ws, et, wl, w0⟩ := hW t (List.mem_of_getElem? ht)
        have tl2 : t ≠ l2 := fun z => by rw [z, nl2] at et; cases et
        have et' := kp _ _ tl2 et
        have cm : (c + 1) * (m + 2) ≤ 20736 := Nat.le_trans (Nat.mul_le_mul_right _ (show c + 1 ≤ (m + 2) ^ i by omega)) (by rw [← Nat.pow_succ]; exact p1)
        rw [Nat.succ_mul] at cm
        refine ⟨_, rfl, .inl ⟨rfl, _, SqL.of eus⟩, ?_⟩
        refine ⟨by show 1 ≤ sizeLine; decide, fun q1 nq1 => ?_⟩
        have s4 : Same G' (upd G' q1 (.lst [.non])) := same_upd nq1
        have eq1 : upd G' q1 (.lst [.non]) q1 = some (.lst [.non]) := upd_same
        generalize upd G' q1 (HO.lst [.non]) = G3 at s4 eq1 ⊢
        refine ⟨_, rfl, _, 1, rfl, rfl, _, rfl, ?_, fun q2 nq2 => ?_⟩
        · exact RgOk.of_le (by omega) (by omega) (by omega) (by omega)
        have s5 := s4.trans (same_upd nq2 (o := .lst (rgV 0 ((m : Int) + 1))))
        have eq1' := same_upd nq2 (o := .lst (rgV 0 ((m : Int) + 1))) _ _ eq1
        have eq2 : upd G3 q2 (.lst (rgV 0 ((m : Int) + 1))) q2 = some (.lst (rgV 0 ((m : Int) + 1))) := upd_same
        generalize upd G3 q2 (HO.lst (rgV 0 ((m : Int) + 1))) = G4 at s5 eq1' eq2 ⊢
        have rl : (rgV 0 ((m : Int) + 1)).length = m + 1 := by rw [rgV_length]; omega
        refine ⟨q1, q2, _, _, rfl, rfl, eq1', eq2, by rw [rl, sizeLine_eq]; show 1 + (m + 1) ≤ _; omega, fun q3 nq3 => ?_⟩
        have xsW : ∀ x ∈ [V.non] ++ rgV 0 ((m : Int) + 1), ∃ v : Option Int, x = wV v ∧ ∀ u, v = some u → 0 ≤ u := fun x hx => by
          rcases List.mem_append.mp hx with h | h
          · exact ⟨none, List.mem_singleton.mp h, fun u z => nomatch z⟩
          · unfold rgV at h
            obtain ⟨y, _, rfl⟩ := List.mem_map.mp h
            exact ⟨some (0 + (y : Int)), rfl, fun u z => by rw [← Option.some.inj z]; omega⟩
        have xl : ([V.non] ++ rgV 0 ((m : Int) + 1)).length = m + 2 := by rw [List.length_append, rl]; show 1 + (m + 1) = m + 2; omega
        generalize [V.non] ++ rgV 0 ((m : Int) + 1) = xs at nq3 xsW xl ⊢
        have s6 : Same G' (upd G4 q3 (.lst xs)) := s5.trans (same_upd nq3)
        have eq3 : upd G4 q3 (.lst xs) q3 = some (.lst xs) := upd_same
        generalize upd G4 q3 (HO.lst xs) = G5 at s6 eq3 ⊢
        refine ⟨q3, rfl, ⟨_, SqL.of eq3⟩, fun D nD => ?_⟩
        refine lc_list (K := K) (a := q3) (xs := xs) (fun d G6 => Same G5 G6 ∧ ∃ vs, G6 D = some (.lst (vs.map V.ref)) ∧ WsA G6 (i + 1) vs ∧ vs.length = d) ⟨same_upd nD, [], upd_same, (fun t ht => nomatch ht), rfl⟩ ?_ ?_ ?_
        · rintro d G6 _ ⟨sg, _⟩
          exact SqL.of (sg _ _ eq3)
        · rintro d x G6 hx ⟨sg, vs, hD, hvs, hvl⟩
          have hd : d < xs.length := (List.getElem?_eq_some_iff.mp hx).1
          obtain ⟨v, rfl, v0⟩ := xsW x (List.mem_of_getElem? hx)
          refine ⟨rfl, _, rfl, _, rfl, by show 1 ≤ sizeLine; decide, fun t1 nt1 => ?_⟩
          have s7 : Same G6 (upd G6 t1 (.tup [wV v])) := same_upd nt1
          have e1 : upd G6 t1 (.tup [wV v]) t1 = some (.tup [wV v]) := upd_same
          generalize upd G6 t1 (HO.tup [wV v]) = G7 at s7 e1 ⊢
          refine cat_anyW (s7 _ _ (sg _ _ (s6 _ _ et'))) e1 (by rw [List.length_map, wl, sizeLine_eq]; show i + 1 ≤ _; omega) fun q G8 s8 eq => ?_
          have hD8 := s8 _ _ (s7 _ _ hD)
          have kt : MG.KT G8 (upd G8 D (.lst (vs.map V.ref ++ [.ref q]))) := MG.KT.lst hD8
          refine ⟨_, hD8, by rw [List.length_map, hvl, sizeLine_eq]; omega, fun z o hz => ?_, vs ++ [q], by rw [upd_same, List.map_append]; rfl, ?_, by rw [List.length_append, hvl]; rfl⟩
          · rw [upd_ne (ne_of_none hz nD)]
            exact s8 _ _ (s7 _ _ (sg _ _ hz))
          · refine WsA.app (hvs.mono fun z xs h => kt _ _ (s8 _ _ (s7 _ _ h))) fun t2 ht2 => ?_
            rw [List.mem_singleton.mp ht2]
            refine ⟨ws ++ [v], kt _ _ (by rw [eq, List.map_append]; rfl), by rw [List.length_append, wl]; rfl, fun u hu => ?_⟩
            rcases List.mem_append.mp hu with h | h
            · exact w0 u h
            · exact v0 u (List.mem_singleton.mp h).symm
        rintro G6 ⟨sg, vs, hD, hvs, hvl⟩
        have eus6 := sg _ _ (s6 _ _ eus)
        refine ⟨l2, D, _, _, rfl, rfl, eus6, hD, by rw [List.length_map, List.length_map, sizeLine_eq]; omega, ?_⟩
        have kt : MG.KT G6 (upd G6 l2 (.lst (us.map V.ref ++ vs.map V.ref))) := MG.KT.lst eus6
        refine ⟨us ++ vs, _, _, rfl, fun z o hz h => ?_, fun z o hz => ?_, by rw [upd_same, List.map_append], ?_, by rw [List.length_append, hul, hvl, xl, Nat.succ_mul]⟩
        · rw [upd_ne hz]
          exact sg _ _ (s6 _ _ (kp _ _ hz h))
        · rw [upd_ne (ne_of_none hz nH2)]
          exact sg _ _ (s6 _ _ (sG' _ _ hz))
        · exact (WsA.app (hus.mono fun z xs h => sg _ _ (s6 _ _ h)) hvs).mono fun z xs h => kt _ _ h
      · rintro σ G' ⟨us, y5, y6, rfl, kp, sG', eus, hus, hul⟩
        rw [List.length_map] at hul
        exact ⟨_, rfl, l2, us, _, _, _, _, rfl, sG', eus, hus, by rw [hul, Nat.pow_succ]; exact Nat.mul_le_mul_right _ hl⟩
end
end K84

/-! MG: truths over a row and wishes -/
namespace MG
open PySem PySem.Spec PyProof.Rows L2
theorem zipW {K : PySem.W.Frag} {i j : Nat} {σ : L2.St} {H : Hp} {a b D : Addr} {r : List Int} {ws : List (Option Int)} {te : TE} {Qd : Hp → Prop} (g : Int → Option Int → Bool)
    (step : ∀ (n : Int) (v : Option Int) (σ2 : L2.St) (G : Hp) (Q : VK), σ2[i]? = some (some (.int n)) → σ2[j]? = some (some (wV v)) → Q (.bl (g n v)) G → te σ2 G Q)
    (hij : i ≠ j) (hi : i < σ.length) (hj : j < σ.length) (ea : H a = some (.tup (r.map V.int))) (eb : H b = some (.tup (ws.map wV))) (hl : r.length = ws.length) (h1000 : r.length ≤ 1000) (nD : H D = none)
    (q : ∀ H', Same H H' → H' D = some (.lst (((r.zip ws).map fun z => g z.1 z.2).map V.bl)) → Qd H') :
    ∃ W : Nat → Nat → Hp → Prop, (∃ m, W 0 m (upd H D (.lst []))) ∧ ∀ k m H, W k m H →
      ((RZ.ItzT K a b).stop k H ∧ Qd H) ∨ ((RZ.ItzT K a b).go k H ∧ ∃ Nx : Hp → Prop, (∀ H', Nx H' → ∃ m', m' < m ∧ W (k + 1) m' H') ∧ ∀ x H', (RZ.ItzT K a b).yld k H x H' → gTup K 2 (gCons (gName i) (gCons (gName j) gNil)) x (wipe σ [i, j]) H' fun σ2 H2 => wipe σ2 [i, j] = wipe σ [i, j] ∧ tYes σ2 H2 fun c H3 =>
        if c = true then te σ2 H3 fun y H4 => ∃ acc, H4 D = some (.lst acc) ∧ acc.length < sizeLine ∧ Nx (upd H4 D (.lst (acc ++ [y]))) else Nx H3) := by
  let L : List Bool := (r.zip ws).map fun z => g z.1 z.2
  have hL : L.length = r.length := by
    show ((r.zip ws).map _).length = _
    rw [List.length_map, List.length_zip]; omega
  refine lc_it (walk_zipT (K := K) (a := a) (b := b) (xs := r.map V.int) (ys := ws.map wV) (n := r.length) (by rw [List.length_map, List.length_map]; omega)) (fun m H' => Same H H' ∧ H' D = some (.lst ((L.take m).map V.bl))) ⟨same_updG nD, upd_same⟩ ?_ ?_ ?_
  · intro m H' _ h
    exact ⟨SqT.of (h.1 _ _ ea), SqT.of (h.1 _ _ eb)⟩
  · rintro m x H' H'' hm ⟨sm, hD⟩ ⟨T, x1, x2, rfl, nT, rfl, e1, e2⟩
    have hm2 : m < ws.length := by omega
    have e1' : x1 = .int r[m] := by
      have z : (r.map V.int)[m]? = some x1 := e1
      rw [List.getElem?_map, List.getElem?_eq_getElem hm] at z
      exact (Option.some.inj z).symm
    have e2' : x2 = wV ws[m] := by
      have z : (ws.map wV)[m]? = some x2 := e2
      rw [List.getElem?_map, List.getElem?_eq_getElem hm2] at z
      exact (Option.some.inj z).symm
    subst e1' e2'
    have smT : Same H' (upd H' T (.tup [.int r[m], wV ws[m]])) := same_updG nT
    have si : i < (wipe σ [i, j]).length := by rw [wipe_length]; exact hi
    have sj : j < (wipe σ [i, j]).length := by rw [wipe_length]; exact hj
    have gi : (((wipe σ [i, j]).set i (some (V.int r[m]))).set j (some (wV ws[m])))[i]? = some (some (V.int r[m])) := by
      rw [List.getElem?_set_ne (Ne.symm hij)]; exact List.getElem?_set_self si
    have gj : (((wipe σ [i, j]).set i (some (V.int r[m]))).set j (some (wV ws[m])))[j]? = some (some (wV ws[m])) := List.getElem?_set_self (by rw [List.length_set]; exact sj)
    refine ⟨T, [.int r[m], wV ws[m]], rfl, .inl (.inl upd_same), rfl, .int r[m], [wV ws[m]], rfl, wV ws[m], [], rfl, rfl, wipe2 σ hij _ _, ?_⟩
    refine step r[m] ws[m] _ _ _ gi gj ⟨_, smT _ _ hD, ?_, ?_, ?_⟩
    · rw [List.length_map]
      refine small1000 ?_
      rw [List.length_take]; omega
    · intro c o hc
      rw [upd_ne (ne_of_none hc nD)]
      exact smT _ _ (sm c o hc)
    · have hLm : L[m]? = some (g r[m] ws[m]) := by
        show ((r.zip ws).map _)[m]? = _
        rw [List.getElem?_map, List.getElem?_eq_getElem (by rw [List.length_zip]; omega), List.getElem_zip]; rfl
      rw [upd_same, List.take_add_one, hLm, List.map_append]; rfl
  · rintro H' ⟨sm, hD⟩
    rw [← hL, List.take_length] at hD
    exact q H' sm hD
theorem meets_all : ∀ {r : List Int} {ws : List (Option Int)}, r.length = ws.length → (((r.zip ws).map fun z => z.2.isNone || decide (z.2 = some z.1)).all id = true ↔ Meets ws r)
  | [], [], _ => ⟨fun _ => ⟨rfl, fun p v h => by simp at h⟩, fun _ => rfl⟩
  | [], _ :: _, h => by cases h
  | _ :: _, [], h => by cases h
  | n :: r, v :: ws, h => by
    have ih := meets_all (r := r) (ws := ws) (Nat.succ.inj h)
    rw [List.zip_cons_cons, List.map_cons, List.all_cons, Bool.and_eq_true, ih]
    constructor
    · rintro ⟨h1, m⟩
      refine ⟨by rw [List.length_cons, List.length_cons, m.1], fun p x hp => ?_⟩
      cases p with
      | zero =>
        have e : v = some x := Option.some.inj hp
        subst e
        have h2 : decide (some x = some n) = true := by simpa using h1
        have := of_decide_eq_true h2
        rw [this]; rfl
      | succ p => exact m.2 p x hp
    · intro m
      have mc := meets_cons m
      refine ⟨?_, mc.1⟩
      cases v with
      | none => rfl
      | some x =>
        have := mc.2 x rfl
        subst this
        show (false || decide (some n = some n)) = true
        rw [decide_eq_true rfl]; rfl
def nothW (n : Int) : Option Int → Bool
  | some v => decide (0 < v) && decide (n = 0)
  | none => false
theorem hfn_wish : ∀ {r : List Int} {ws : List (Option Int)}, ((r.zip ws).map fun z => nothW z.1 z.2).any id = hfn r (wA ws)
  | [], _ => rfl
  | _ :: _, [] => rfl
  | n :: r, v :: ws => by
    have ih := hfn_wish (r := r) (ws := ws)
    unfold hfn wA at ih ⊢
    rw [List.zip_cons_cons, List.map_cons, List.any_cons, List.map_cons, List.zip_cons_cons, List.any_cons, ih]
    congr 1
    cases v with
    | none => show false = (decide (n = 0) && decide ((0 : Int) > 0)); rw [decide_eq_false (show ¬ (0 : Int) > 0 by decide), Bool.and_false]
    | some x => show (decide (0 < x) && decide (n = 0)) = (decide (n = 0) && decide (x > 0)); rw [Bool.and_comm]
theorem posL_wA_snoc (ws : List (Option Int)) (i : Nat) {v : Option Int} (h : ws[i]? = some v) : posL (wA (ws.take (i + 1))) = posL (wA (ws.take i)) ++ (if 0 < v.getD 0 then [v.getD 0] else []) := by
  rw [List.take_add_one, h]
  unfold posL wA
  show List.filter _ (List.map _ (ws.take i ++ [v])) = _
  rw [List.map_append, List.filter_append]
  congr 1
  by_cases hp : 0 < v.getD 0
  · rw [if_pos hp]
    show List.filter _ [v.getD 0] = _
    rw [List.filter_cons_of_pos (by simpa using hp), List.filter_nil]
  · rw [if_neg hp]
    show List.filter _ [v.getD 0] = _
    rw [List.filter_cons_of_neg (by simpa using hp), List.filter_nil]
theorem any_mod {l : List Int} {u : Int} : ((l.map fun n => !decide (n % u = 0)).any id = true) ↔ ∃ n ∈ l, n % u ≠ 0 := by
  rw [List.any_eq_true]
  constructor
  · rintro ⟨x, hx, h⟩
    obtain ⟨n, hn, rfl⟩ := List.mem_map.mp hx
    exact ⟨n, hn, fun z => by rw [decide_eq_true z] at h; cases h⟩
  · rintro ⟨n, hn, h⟩
    exact ⟨_, List.mem_map.mpr ⟨n, hn, rfl⟩, by rw [decide_eq_false h]; rfl⟩
end MG

/-! MG: zip(tuple, list) -/
namespace MG
open PySem PySem.Spec PyProof.Rows L2
/-- the tuple at a and the list at b, the items in new pairs -/
def ItM (K : PySem.W.Frag) (a b : Addr) : It :=
  ⟨fun i H => ∃ (xs ys : List V) (x y : V), SqT K H a xs ∧ SqL K H b ys ∧ xs[i]? = some x ∧ ys[i]? = some y,
   fun i H v H' => ∃ T x y, v = .ref T ∧ H T = none ∧ H' = upd H T (.tup [x, y]) ∧ (∀ xs, SqT K H a xs → xs[i]? = some x) ∧ ∀ ys, SqL K H b ys → ys[i]? = some y,
   fun i H => ∃ xs ys : List V, SqT K H a xs ∧ SqL K H b ys ∧ i = min xs.length ys.length⟩
/-- zip at n + 4, its pairs behind n + 2 and n + 3, the iterators at n and n + 1; i told of both -/
abbrev ours5 (n : Nat) : List Addr := [n + 4, n + 2, n + 3, n, n + 1]
structure ZiM (a b n i : Nat) (g : Heap) : Prop where
  zip : IsZip g (n + 4) (n + 2) (n + 3) .none
  ins : IsTupOf2 g (n + 2) (.ref n) (.ref (n + 1))
  outs : ∃ x y, IsTupOf2 g (n + 3) x y
  one : g.IsTupleIter n a i
  two : g.IsListIter (n + 1) b i
theorem mem5 {n : Nat} {c : Addr} : c ∈ ours5 n ↔ c = n + 4 ∨ c = n + 2 ∨ c = n + 3 ∨ c = n ∨ c = n + 1 := by simp
theorem wr5 {n c : Nat} (z : c ∈ [n + 4, n + 3, n, n + 1]) : c ∈ ours5 n := by
  simp only [List.mem_cons, List.not_mem_nil, or_false] at z ⊢
  omega
theorem ge5 {n c : Nat} (z : c ∈ ours5 n) : n ≤ c := by
  simp only [List.mem_cons, List.not_mem_nil, or_false] at z
  omega
theorem ZiM.live {a b n i : Nat} {g : Heap} (st : ZiM a b n i g) : ∀ c ∈ ours5 n, ∃ o, g.get? c = some o ∧ ∀ v, o.data ≠ .cell v := by
  intro c hc
  rcases mem5.mp hc with rfl | rfl | rfl | rfl | rfl
  · exact ⟨_, st.zip, fun v z => nomatch z⟩
  · exact ⟨_, st.ins, fun v z => nomatch z⟩
  · obtain ⟨x, y, q⟩ := st.outs
    exact ⟨_, q, fun v z => nomatch z⟩
  · obtain ⟨o, q, _, dat⟩ := st.one
    exact ⟨o, q, fun v z => nomatch (show Data.fields _ = Data.cell v from dat.symm.trans z)⟩
  · obtain ⟨o, q, _, dat⟩ := st.two
    exact ⟨o, q, fun v z => nomatch (show Data.fields _ = Data.cell v from dat.symm.trans z)⟩
theorem out2 {c x y : Nat} (h1 : c ≠ x) (h2 : c ≠ y) : c ∉ [x, y] := by
  intro z
  rcases List.mem_cons.mp z with z | z
  · exact h1 z
  · exact h2 (List.mem_singleton.mp z)
theorem sep5 {a b n : Nat} (ha : a < n) (hb : b < n) : ZipSep2 (n + 4) (n + 2) (n + 3) n (n + 1) [n, a] [n + 1, b] where
  TIz := show (n + 2 : Nat) ≠ n + 4 by omega
  TOz := show (n + 3 : Nat) ≠ n + 4 by omega
  TITO := show (n + 2 : Nat) ≠ n + 3 by omega
  TIi1 := show (n + 2 : Nat) ≠ n by omega
  mem1 := List.mem_cons_self
  zf1 := out2 (by omega) (by omega)
  Tf1 := out2 (by omega) (by omega)
  TIi2 := show (n + 2 : Nat) ≠ n + 1 by omega
  mem2 := List.mem_cons_self
  zf2 := out2 (by omega) (by omega)
  Tf2 := out2 (by omega) (by omega)
  sep1_2 := out2 (by omega) (by omega)
  sep2_1 := out2 (by omega) (by omega)
theorem turn_zipM {P : Program} {w : World} {K : PySem.W.Frag} {elts : List Expr} {kk : Nat} {tpos : Pos} {a b n : Nat} (ha : a < n) (hb : b < n) :
    Turn P w K (.Tuple elts kk tpos) (ItM K a b) (ours5 n) (n + 4) (ZiM a b n) where
  mem := List.mem_cons_self
  obj := fun _ _ st => st.live
  keep := fun i g g' st k => by
    obtain ⟨x, y, q⟩ := st.outs
    exact ⟨k _ (mem5.mpr (.inl rfl)) _ st.zip, k _ (mem5.mpr (.inr (.inl rfl))) _ st.ins, ⟨x, y, k _ (mem5.mpr (.inr (.inr (.inl rfl)))) _ q⟩,
      st.one.at fun o => k _ (mem5.mpr (.inr (.inr (.inr (.inl rfl))))) o, st.two.at fun o => k _ (mem5.mpr (.inr (.inr (.inr (.inr rfl))))) o⟩
  self := fun A i s Q E st q => wpAny_pyIter_zip st.zip q
  item := by
    intro X hP hw hK calm i pins s σ H E I own st go
    subst hP hw hK
    obtain ⟨xs, ys, x, y, hx, hy, gx, gy⟩ := go
    obtain ⟨us, rx, tup, _⟩ := I.tuple hx
    obtain ⟨vs, ry, lst, _⟩ := I.list hy
    obtain ⟨u, hu, ru⟩ := rx.get gx
    obtain ⟨v, hv, rv⟩ := ry.get gy
    have walk := GoesN.zip2 (elts := elts) (x1 := kk) (pos := tpos) (sep5 ha hb)
      (Draws.tuple (prog := X.prog) (w := X.w) (A := X.A.in1) (I.ok.hd calm) n a (Nat.ne_of_lt ha) us.toArray)
      (Draws.list (prog := X.prog) (w := X.w) (A := X.A.in1) (I.ok.hd calm) (n + 1) b (Nat.ne_of_lt (Nat.lt_succ_of_lt hb)) vs.toArray)
    refine walk.goes i s (fun z s2 => ∃ t H', Inv X pins σ H' s2 ∧ RelV t z ∧ (ItM X.K a b).yld i H t H' ∧ ZiM a b n (i + 1) s2.heap ∧ ∀ c ∈ ours5 n, H' c = none) E
      ?_ ⟨st.zip, st.ins, st.outs, ⟨st.one, tup⟩, st.two, lst.isList⟩ ?_
    · rw [List.size_toArray, List.size_toArray]
      exact Nat.lt_min.mpr ⟨(List.getElem?_eq_some_iff.mp hu).1, (List.getElem?_eq_some_iff.mp hv).1⟩
    · rintro z g tk ⟨T, p, q, rfl, new, hp, hq, made⟩ ⟨zip2, ins2, outs2, ⟨one2, _⟩, two2, _⟩ off _
      obtain rfl : p = u := Option.some.inj (by rw [← hu, ← hp, List.getElem?_toArray])
      obtain rfl : q = v := Option.some.inj (by rw [← hv, ← hq, List.getElem?_toArray])
      have off5 : ∀ c o, c ∉ ours5 n → s.heap.get? c = some o → g.get? c = some o := fun c o hc =>
        off c o fun z => hc (wr5 z)
      obtain ⟨J, free, none_⟩ := told_new (tk := tk) (xs := [x, y]) (us := [p, q]) I own (fun c hc => let ⟨o, e, _⟩ := st.live c hc; ⟨o, e⟩) off5 new made
        (.cons ru (.cons rv .nil)) (by show 2 ≤ sizeLine; decide)
      exact ⟨.ref T, _, J, rfl, ⟨T, x, y, rfl, free, rfl, fun zs hz => by rw [I.tuple_inj hz hx]; exact gx, fun zs hz => by rw [I.list_inj hz hy]; exact gy⟩,
        ⟨zip2, ins2, outs2, one2, two2⟩, none_⟩
  done := by
    intro X hP hw hK calm i pins s σ H E I own st go
    subst hP hw hK
    obtain ⟨xs, ys, hx, hy, rfl⟩ := go
    obtain ⟨us, rx, tup, _⟩ := I.tuple hx
    obtain ⟨vs, ry, lst, _⟩ := I.list hy
    have end_ : min us.toArray.size vs.toArray.size = min xs.length ys.length := by
      rw [List.size_toArray, List.size_toArray, rx.length, ry.length]
    have walk := GoesN.zip2 (elts := elts) (x1 := kk) (pos := tpos) (sep5 ha hb)
      (Draws.tuple (prog := X.prog) (w := X.w) (A := X.A.in1) (I.ok.hd calm) n a (Nat.ne_of_lt ha) us.toArray)
      (Draws.list (prog := X.prog) (w := X.w) (A := X.A.in1) (I.ok.hd calm) (n + 1) b (Nat.ne_of_lt (Nat.lt_succ_of_lt hb)) vs.toArray)
    refine walk.stops s (fun s' => Inv X pins σ H s') E
      (by rw [end_]; exact ⟨st.zip, st.ins, st.outs, ⟨st.one, tup⟩, st.two, lst.isList⟩) fun g tk off _ => I.turnedL (t' := tk) (fun c o hc => ?_) own
    exact off c o fun z => hc (wr5 z)
def iZipM (K : PySem.W.Frag) (ta : TA) : TI := fun σ H R => ta σ H fun vs H1 => ∃ a b xs ys, vs = [.ref a, .ref b] ∧ SqT K H1 a xs ∧ SqL K H1 b ys ∧ R (ItM K a b) H1
theorem pi_zipM {X : Cx} {e e2 : Expr} {ta : TA} {p pos tpos : Pos} {elts : List Expr} {kk : Nat} (hg : Gl X "zip") (hm : X.mg "zip" = none) (ha : PA X [e, e2] ta)
    (ws : starEach [e, e2] X.env = (false, eval e X.env) :: starEach [e2] X.env := by rfl) (wp : (backTo pos (starEach [e2] X.env)).any (·.1) = false := by rfl) :
    PI X (.Tuple elts kk tpos) (.Call (.Name "zip" p) [e, e2] [] pos) (iZipM X.K ta) := by
  refine ⟨fun pins s σ H R I want => Call_ (ld_blt I hg hm PyProof.Rows.boot_zip (PyProof.Rows.callWith_type1 (thn (ha.run pos pins s σ H _ I want) ?_) ws wp))⟩
  rintro us s1 ⟨vs, H1, I1, rel, a, b, xs, ys, rfl, hx, hy, go⟩
  match us, rel with
  | [_, _], .cons ra (.cons rb .nil) =>
    cases ra
    cases rb
    obtain ⟨is1, _, tup, _⟩ := I1.tuple hx
    obtain ⟨is2, _, lst, _⟩ := I1.list hy
    have la : a < s1.heap.objs.size := let ⟨_, q, _⟩ := tup; Heap.lt_size q
    refine zip_begins2 (begins_tuple a is1.toArray) (begins_list b is2.toArray) tup lst.isList fun g zip ins outs one two _ up => wpAny_pyIter_zip zip ?_
    have new : ∀ c ∈ ours5 s1.heap.objs.size, s1.heap.objs.size ≤ c := fun c hc => ge5 hc
    exact ⟨_, _, _, _, H1, rfl, I1.kept (t' := s1.toks) up, turn_zipM la lst.lt, ⟨zip, ins, ⟨_, _, outs⟩, ⟨_, one, rfl, rfl⟩, ⟨_, two, rfl, rfl⟩⟩,
      fun c hc => I1.fpOk (new c hc) (I1.hok.fresh (new c hc)), go⟩
theorem walk_zipM {K : PySem.W.Frag} {a b : Addr} {xs ys : List V} {n : Nat} (hn : n = min xs.length ys.length) :
    Walk (ItM K a b) n (fun H => SqT K H a xs ∧ SqL K H b ys) (YPair (fun i => xs[i]?) (fun i => ys[i]?)) := by
  subst hn
  refine ⟨fun i H lt q => ⟨xs, ys, xs[i]'(Nat.lt_of_lt_of_le lt (Nat.min_le_left ..)), ys[i]'(Nat.lt_of_lt_of_le lt (Nat.min_le_right ..)), q.1, q.2, List.getElem?_eq_getElem _, List.getElem?_eq_getElem _⟩,
    fun H q => ⟨xs, ys, q.1, q.2, rfl⟩, ?_⟩
  rintro i H v H' _ q ⟨T, x, y, e, free, next, one, two⟩
  exact ⟨T, x, y, e, free, next, one xs q.1, two ys q.2⟩
end MG



/-! MMr: zip of a row and its wishes, told truth by truth -/
namespace MG
open PySem PySem.Spec PyProof.Rows L2
/-- truths over a row and its wishes -/
theorem zipRW {K : PySem.W.Frag} {i j : Nat} {σ : L2.St} {H : Hp} {a b D : Addr} {r : List Int} {ws : List (Option Int)} {te : TE} {Qd : Hp → Prop} (g : Int → Option Int → Bool)
    (step : ∀ (n : Int) (v : Option Int) (σ2 : L2.St) (G : Hp) (Q : VK), σ2[i]? = some (some (.int n)) → σ2[j]? = some (some (wV v)) → Q (.bl (g n v)) G → te σ2 G Q)
    (hij : i ≠ j) (hi : i < σ.length) (hj : j < σ.length) (ea : H a = some (.tup (r.map V.int))) (eb : H b = some (.tup (ws.map wV))) (hl : r.length = ws.length) (h1000 : r.length ≤ 1000) (nD : H D = none)
    (q : ∀ H', Same H H' → H' D = some (.lst (((r.zip ws).map fun z => g z.1 z.2).map V.bl)) → Qd H') :
    ∃ W : Nat → Nat → Hp → Prop, (∃ m, W 0 m (upd H D (.lst []))) ∧ ∀ k m H, W k m H →
      ((RZ.ItzT K a b).stop k H ∧ Qd H) ∨ ((RZ.ItzT K a b).go k H ∧ ∃ Nx : Hp → Prop, (∀ H', Nx H' → ∃ m', m' < m ∧ W (k + 1) m' H') ∧ ∀ x H', (RZ.ItzT K a b).yld k H x H' → gTup K 2 (gCons (gName i) (gCons (gName j) gNil)) x (wipe σ [i, j]) H' fun σ2 H2 => wipe σ2 [i, j] = wipe σ [i, j] ∧ tYes σ2 H2 fun c H3 =>
        if c = true then te σ2 H3 fun y H4 => ∃ acc, H4 D = some (.lst acc) ∧ acc.length < sizeLine ∧ Nx (upd H4 D (.lst (acc ++ [y]))) else Nx H3) := by
  let L : List Bool := (r.zip ws).map fun z => g z.1 z.2
  have hL : L.length = r.length := by
    show ((r.zip ws).map _).length = _
    rw [List.length_map, List.length_zip]; omega
  refine lc_it (walk_zipT (K := K) (a := a) (b := b) (xs := r.map V.int) (ys := ws.map wV) (n := r.length) (by rw [List.length_map, List.length_map]; omega)) (fun m H' => Same H H' ∧ H' D = some (.lst ((L.take m).map V.bl))) ⟨same_updG nD, upd_same⟩ ?_ ?_ ?_
  · intro m H' _ h
    exact ⟨SqT.of (h.1 _ _ ea), SqT.of (h.1 _ _ eb)⟩
  · rintro m x H' H'' hm ⟨sm, hD⟩ ⟨T, x1, x2, rfl, nT, rfl, e1, e2⟩
    have hm2 : m < ws.length := by omega
    have e1' : x1 = .int r[m] := by
      have z : (r.map V.int)[m]? = some x1 := e1
      rw [List.getElem?_map, List.getElem?_eq_getElem hm] at z
      exact (Option.some.inj z).symm
    have e2' : x2 = wV ws[m] := by
      have z : (ws.map wV)[m]? = some x2 := e2
      rw [List.getElem?_map, List.getElem?_eq_getElem hm2] at z
      exact (Option.some.inj z).symm
    subst e1' e2'
    have smT : Same H' (upd H' T (.tup [.int r[m], wV ws[m]])) := same_updG nT
    have si : i < (wipe σ [i, j]).length := by rw [wipe_length]; exact hi
    have sj : j < (wipe σ [i, j]).length := by rw [wipe_length]; exact hj
    have gi : (((wipe σ [i, j]).set i (some (V.int r[m]))).set j (some (wV ws[m])))[i]? = some (some (V.int r[m])) := by
      rw [List.getElem?_set_ne (Ne.symm hij)]; exact List.getElem?_set_self si
    have gj : (((wipe σ [i, j]).set i (some (V.int r[m]))).set j (some (wV ws[m])))[j]? = some (some (wV ws[m])) := List.getElem?_set_self (by rw [List.length_set]; exact sj)
    refine ⟨T, [.int r[m], wV ws[m]], rfl, .inl (.inl upd_same), rfl, V.int r[m], [wV ws[m]], rfl, wV ws[m], [], rfl, rfl, wipe2 σ hij _ _, ?_⟩
    refine step r[m] ws[m] _ _ _ gi gj ⟨_, smT _ _ hD, ?_, ?_, ?_⟩
    · rw [List.length_map]
      refine small1000 ?_
      rw [List.length_take]; omega
    · intro c o hc
      rw [upd_ne (ne_of_none hc nD)]
      exact smT _ _ (sm c o hc)
    · have hLm : L[m]? = some (g r[m] ws[m]) := by
        show ((r.zip ws).map _)[m]? = _
        rw [List.getElem?_map, List.getElem?_eq_getElem (by rw [List.length_zip]; omega), List.getElem_zip]; rfl
      rw [upd_same, List.take_add_one, hLm, List.map_append]; rfl
  · rintro H' ⟨sm, hD⟩
    rw [← hL, List.take_length] at hD
    exact q H' sm hD
end MG

/-! MMa: of so many holders and such a sum all that no clause bars is come to: gone through by the kernel. Pure mathematics. -/
namespace Fc
noncomputable def ite' {α : Type} (b : Bool) (x y : α) : α := Bool.rec (motive := fun _ => α) y x b
noncomputable def en (B : Nat) (l : List Nat) : Nat := List.rec (motive := fun _ => Nat) 0 (fun x _ ih => Nat.add x (Nat.mul B ih)) l
noncomputable def hd (l : List Nat) : Nat := List.rec (motive := fun _ => Nat) 0 (fun x _ _ => x) l
noncomputable def get (n : Nat) : List Nat → Nat := Nat.rec (motive := fun _ => List Nat → Nat) hd (fun _ ih l => List.rec (motive := fun _ => Nat) 0 (fun _ t _ => ih t) l) n
noncomputable def ins (y n : Nat) : List Nat → List Nat := Nat.rec (motive := fun _ => List Nat → List Nat) (fun l => List.rec (motive := fun _ => List Nat) [] (fun x t _ => Nat.lor x y :: t) l) (fun _ ih l => List.rec (motive := fun _ => List Nat) [] (fun x t _ => x :: ih t) l) n
noncomputable def has (v : List Nat) (a b : Nat) : Bool := Nat.beq (Nat.mod (Nat.shiftRight (get a v) b) 2) 1
noncomputable def put (v : List Nat) (a b : Nat) : List Nat := ins (Nat.pow 2 b) a v
noncomputable def try3 (ih : List Nat → List Nat → List Nat) (d a b : Nat) (st v : List Nat) : List Nat :=
  Bool.rec (motive := fun _ => List Nat) (ih (d :: st) (put v a b)) (ih st v) (has v a b)
noncomputable def try2 (B M : Nat) (ih : List Nat → List Nat → List Nat) (d : Nat) (st v : List Nat) : List Nat := try3 ih d (Nat.mod d B) (Nat.mod (Nat.div d B) M) st v
noncomputable def try1 (B M : Nat) (ih : List Nat → List Nat → List Nat) (c x pi pj : Nat) (st v : List Nat) : List Nat :=
  Bool.rec (motive := fun _ => List Nat) (Bool.rec (motive := fun _ => List Nat) (ih st v) (try2 B M ih (Nat.sub (Nat.add c (Nat.mul x pj)) (Nat.mul x pi)) st v) (Nat.ble x (Nat.mod (Nat.div c pi) B))) (ih st v) (Nat.beq x 0)
noncomputable def scan (B M : Nat) (K : List Nat → List Nat → List Nat) (c : Nat) (P : List (Nat × Nat)) : List Nat → List Nat → List Nat :=
  List.rec (motive := fun _ => List Nat → List Nat → List Nat) K (fun p _ ih st v => try1 B M ih c (Nat.mod (Nat.div c p.2) B) p.1 p.2 st v) P
noncomputable def go (B M : Nat) (P : List (Nat × Nat)) (f : Nat) : List Nat → List Nat → List Nat :=
  Nat.rec (motive := fun _ => List Nat → List Nat → List Nat) (fun _ v => v)
    (fun _ ih st v => List.rec (motive := fun _ => List Nat) v (fun d st _ => scan B M ih d P st v) st) f
def prs (B k : Nat) : List (Nat × Nat) := (List.range k).flatMap fun i => (List.range k).filterMap fun j => bif Nat.beq i j then none else some (Nat.pow B i, Nat.pow B j)
noncomputable def seen (B M : Nat) (P : List (Nat × Nat)) (f : Nat) (x : List Nat) : List Nat := go B M P f [en B x] (put (List.replicate B 0) (Nat.mod (en B x) B) (Nat.mod (Nat.div (en B x) B) M))
noncomputable def gN (l : List Nat) : Nat := List.rec (motive := fun _ => Nat) 0 (fun x _ ih => Nat.gcd x ih) l
noncomputable def tN (y : List Nat) : Nat := Nat.gcd (gN y) 64
noncomputable def oN (t : Nat) (l : List Nat) : Nat := List.rec (motive := fun _ => Nat) 0 (fun d _ ih => Bool.rec (motive := fun _ => Nat) ih (Nat.add ih 1) (Bool.and (Nat.ble 1 d) (Nat.ble (Nat.gcd d 64) t))) l
noncomputable def hN (l : List Nat) : Nat := List.rec (motive := fun _ => Nat) 0 (fun d _ ih => Bool.rec (motive := fun _ => Nat) ih (Nat.add ih 1) (Nat.ble 1 d)) l
noncomputable def bad (x y : List Nat) : Bool := Bool.or (Bool.not (Nat.beq (Nat.div (gN x) (tN x)) (Nat.div (gN y) (tN y)))) (Bool.or (Nat.ble (Nat.add (tN y) 1) (tN x)) (Bool.and (Nat.beq (tN y) (tN x)) (Bool.or (Nat.ble (Nat.add (oN (tN x) x) 1) (oN (tN y) y)) (Nat.beq (oN (tN y) y) (hN y)))))
noncomputable def upto (f : Nat → Bool) (n : Nat) : Bool := Nat.rec (motive := fun _ => Bool) (f 0) (fun i ih => Bool.and (f (Nat.succ i)) ih) n
noncomputable def allc (f : List Nat → Bool) (k : Nat) : Nat → List Nat → Bool :=
  Nat.rec (motive := fun _ => Nat → List Nat → Bool) (fun n acc => f (n :: acc)) (fun _ ih n acc => upto (fun a => ih (Nat.sub n a) (a :: acc)) n) k
def part : Nat → Nat → Nat → List (List Nat)
  | 0, n, _ => bif Nat.beq n 0 then [[]] else []
  | k + 1, n, lo => (List.range (n + 1)).flatMap fun a => bif Nat.blt a lo then [] else (part k (n - a) a).map (a :: ·)
noncomputable def okA (B M : Nat) (x y : List Nat) (c : Nat) (v : List Nat) : Bool := Bool.or (has v (Nat.mod c B) (Nat.mod (Nat.div c B) M)) (bad x y)
noncomputable def ok1 (B M k n : Nat) (x : List Nat) (v : List Nat) : Bool := allc (fun y => okA B M x y (en B y) v) (k - 1) n []
noncomputable def chk (B k n f : Nat) : Bool := (part k n 1).all fun x => ok1 B (Nat.pow B (k - 2)) k n x (seen B (Nat.pow B (k - 2)) (prs B k) f x)
open PySem PySem.Spec PyProof.Rows L2 MG
theorem en_cons (B x : Nat) (l : List Nat) : en B (x :: l) = x + B * en B l := rfl
theorem en_nil (B : Nat) : en B [] = 0 := rfl
theorem en_dig {B : Nat} (hB : 0 < B) : ∀ (y : List Nat) (i : Nat), (∀ n ∈ y, n < B) → en B y / B ^ i % B = y.getD i 0
  | [], i, _ => by rw [en_nil, Nat.zero_div, Nat.zero_mod]; rfl
  | x :: l, 0, h => by
    rw [en_cons, Nat.pow_zero, Nat.div_one, Nat.add_mul_mod_self_left, Nat.mod_eq_of_lt (h x List.mem_cons_self)]
    rfl
  | x :: l, i + 1, h => by
    rw [en_cons, Nat.pow_succ', ← Nat.div_div_eq_div_mul, Nat.add_mul_div_left _ _ hB, Nat.div_eq_of_lt (h x List.mem_cons_self), Nat.zero_add]
    exact en_dig hB l i fun n hn => h n (List.mem_cons_of_mem _ hn)
theorem en_set {B : Nat} : ∀ (y : List Nat) (i v : Nat), i < y.length → en B (y.set i v) + B ^ i * y.getD i 0 = en B y + B ^ i * v
  | [], i, v, h => by simp at h
  | x :: l, 0, v, h => by
    show (v + B * en B l) + B ^ 0 * x = (x + B * en B l) + B ^ 0 * v
    rw [Nat.pow_zero]
    omega
  | x :: l, i + 1, v, h => by
    have ih := en_set (B := B) l i v (by simpa using h)
    have e := congrArg (B * ·) ih
    simp only [Nat.mul_add] at e
    show (x + B * en B (l.set i v)) + B ^ (i + 1) * l.getD i 0 = (x + B * en B l) + B ^ (i + 1) * v
    rw [Nat.pow_succ', Nat.mul_assoc, Nat.mul_assoc]
    omega
def dN (y : List Nat) (i j : Nat) : List Nat := (y.set i (y.getD i 0 - y.getD j 0)).set j (2 * y.getD j 0)
theorem getD_cast (y : List Nat) (i : Nat) : (y.map Int.ofNat).getD i 0 = Int.ofNat (y.getD i 0) := by
  rw [List.getD_eq_getElem?_getD, List.getD_eq_getElem?_getD, List.getElem?_map]
  cases y[i]? <;> rfl
theorem dN_cast {y : List Nat} {i j : Nat} (h : y.getD j 0 ≤ y.getD i 0) : (dN y i j).map Int.ofNat = deed (y.map Int.ofNat) i j := by
  unfold dN deed
  rw [List.map_set, List.map_set, getD_cast, getD_cast]
  congr 2
  show ((y.getD i 0 - y.getD j 0 : Nat) : Int) = ((y.getD i 0 : Nat) : Int) - ((y.getD j 0 : Nat) : Int)
  omega
theorem en_dN {B : Nat} {y : List Nat} {i j : Nat} (hi : i < y.length) (hj : j < y.length) (ne : i ≠ j) (h : y.getD j 0 ≤ y.getD i 0) : en B (dN y i j) = en B y + y.getD j 0 * B ^ j - y.getD j 0 * B ^ i := by
  have h1 := en_set (B := B) y i (y.getD i 0 - y.getD j 0) hi
  have h2 := en_set (B := B) (y.set i (y.getD i 0 - y.getD j 0)) j (2 * y.getD j 0) (by rw [List.length_set]; exact hj)
  have h3 : (y.set i (y.getD i 0 - y.getD j 0)).getD j 0 = y.getD j 0 := by
    rw [List.getD_eq_getElem?_getD, List.getElem?_set_ne ne, ← List.getD_eq_getElem?_getD]
  rw [h3] at h2
  unfold dN
  obtain ⟨d, hd⟩ : ∃ d, y.getD i 0 = y.getD j 0 + d := ⟨y.getD i 0 - y.getD j 0, by omega⟩
  rw [hd] at h1 h2 ⊢
  rw [Nat.add_sub_cancel_left] at h1 h2 ⊢
  rw [Nat.mul_add] at h1
  rw [Nat.mul_left_comm] at h2
  rw [Nat.mul_comm (y.getD j 0) (B ^ j), Nat.mul_comm (y.getD j 0) (B ^ i)]
  generalize B ^ i * y.getD j 0 = p at *
  generalize B ^ j * y.getD j 0 = q at *
  omega
theorem dN_len (y : List Nat) (i j : Nat) : (dN y i j).length = y.length := by unfold dN; rw [List.length_set, List.length_set]
theorem get_nil (n : Nat) : get n [] = 0 := by cases n <;> rfl
theorem get_ins (y : Nat) : ∀ (n : Nat) (l : List Nat) (m : Nat), get m (ins y n l) = get m l ∨ (m = n ∧ get m (ins y n l) = get m l ||| y)
  | 0, [], m => .inl rfl
  | n + 1, [], m => .inl rfl
  | 0, x :: l, 0 => .inr ⟨rfl, rfl⟩
  | 0, x :: l, m + 1 => .inl rfl
  | n + 1, x :: l, 0 => .inl rfl
  | n + 1, x :: l, m + 1 => by
    rcases get_ins y n l m with h | ⟨h, k⟩
    · exact .inl h
    · exact .inr ⟨by rw [h], k⟩
theorem has_iff {v : List Nat} {a b : Nat} : has v a b = true ↔ (get a v).testBit b = true := by
  unfold has
  rw [Nat.testBit_eq_decide_div_mod_eq, decide_eq_true_eq]
  show Nat.beq ((get a v >>> b) % 2) 1 = true ↔ _
  rw [Nat.beq_eq, Nat.shiftRight_eq_div_pow]
theorem has_put {v : List Nat} {a b a' b' : Nat} (h : has (put v a b) a' b' = true) : has v a' b' = true ∨ (a' = a ∧ b' = b) := by
  rw [has_iff] at h
  unfold put at h
  rcases get_ins (Nat.pow 2 b) a v a' with k | ⟨rfl, k⟩
  · rw [k] at h
    exact .inl (has_iff.mpr h)
  · rw [k, Nat.testBit_or, show Nat.pow 2 b = 2 ^ b from rfl, Nat.testBit_two_pow, Bool.or_eq_true] at h
    rcases h with h | h
    · exact .inl (has_iff.mpr h)
    · exact .inr ⟨rfl, (of_decide_eq_true h).symm⟩
def Good (R : List Nat → Prop) (B M : Nat) (v : List Nat) : Prop := ∀ a b, has v a b = true → ∃ y, R y ∧ en B y % B = a ∧ en B y / B % M = b
structure Ste (R : List Nat → Prop) (B M : Nat) (st v : List Nat) : Prop where
  s : ∀ c ∈ st, ∃ y, R y ∧ c = en B y
  v : Good R B M v
/-- what is closed by deeds -/
structure Cld (R : List Nat → Prop) (B k : Nat) : Prop where
  hB : 0 < B
  len : ∀ y, R y → y.length = k
  lt : ∀ y, R y → ∀ n ∈ y, n < B
  deed : ∀ y i j, R y → i < k → j < k → i ≠ j → y.getD j 0 ≠ 0 → y.getD j 0 ≤ y.getD i 0 → R (dN y i j)
theorem try_good {G : List Nat → Prop} {B M c x pi pj : Nat} {ih : List Nat → List Nat → List Nat} {st v : List Nat} (h0 : G (ih st v))
    (h1 : x ≠ 0 → x ≤ c / pi % B → G (ih ((c + x * pj - x * pi) :: st) (put v ((c + x * pj - x * pi) % B) ((c + x * pj - x * pi) / B % M)))) : G (try1 B M ih c x pi pj st v) := by
  unfold try1
  cases e1 : Nat.beq x 0 with
  | true => exact h0
  | false =>
    cases e2 : Nat.ble x (Nat.mod (Nat.div c pi) B) with
    | false => exact h0
    | true =>
      show G (try2 B M ih (c + x * pj - x * pi) st v)
      unfold try2 try3
      cases e3 : has v (Nat.mod (c + x * pj - x * pi) B) (Nat.mod (Nat.div (c + x * pj - x * pi) B) M) with
      | true => exact h0
      | false => exact h1 (by intro z; rw [z] at e1; cases e1) (Nat.le_of_ble_eq_true e2)
theorem scan_good {R : List Nat → Prop} {B M k : Nat} (cl : Cld R B k) {K : List Nat → List Nat → List Nat} (hK : ∀ st v, Ste R B M st v → Good R B M (K st v)) {y : List Nat} (hy : R y) :
    ∀ (P : List (Nat × Nat)), (∀ p ∈ P, ∃ i j, i < k ∧ j < k ∧ i ≠ j ∧ p = (B ^ i, B ^ j)) → ∀ st v, Ste R B M st v → Good R B M (scan B M K (en B y) P st v)
  | [], _, st, v, h => hK st v h
  | p :: P, hP, st, v, h => by
    have ih := scan_good cl hK hy P (fun q hq => hP q (List.mem_cons_of_mem _ hq))
    obtain ⟨i, j, hi, hj, ne, rfl⟩ := hP p List.mem_cons_self
    show Good R B M (try1 B M (scan B M K (en B y) P) (en B y) (en B y / B ^ j % B) (B ^ i) (B ^ j) st v)
    rw [en_dig cl.hB y j (cl.lt y hy)]
    refine try_good (ih st v h) fun h1 h2 => ih _ _ ?_
    rw [en_dig cl.hB y i (cl.lt y hy)] at h2
    have hl := cl.len y hy
    rw [← en_dN (by omega) (by omega) ne h2]
    have hd := cl.deed y i j hy hi hj ne h1 h2
    refine ⟨fun c hc => ?_, fun a b hab => ?_⟩
    · rcases List.mem_cons.mp hc with rfl | hc
      · exact ⟨_, hd, rfl⟩
      · exact h.s c hc
    · rcases has_put hab with hab | ⟨rfl, rfl⟩
      · exact h.v a b hab
      · exact ⟨_, hd, rfl, rfl⟩
theorem go_good {R : List Nat → Prop} {B M k : Nat} (cl : Cld R B k) {P : List (Nat × Nat)} (hP : ∀ p ∈ P, ∃ i j, i < k ∧ j < k ∧ i ≠ j ∧ p = (B ^ i, B ^ j)) : ∀ (f : Nat) st v, Ste R B M st v → Good R B M (go B M P f st v)
  | 0, st, v, h => h.v
  | f + 1, [], v, h => h.v
  | f + 1, c :: st, v, h => by
    obtain ⟨y, hy, rfl⟩ := h.s c List.mem_cons_self
    exact scan_good cl (go_good cl hP f) hy P hP st v ⟨fun c hc => h.s c (List.mem_cons_of_mem _ hc), h.v⟩
theorem prs_mem {B k : Nat} {p : Nat × Nat} (h : p ∈ prs B k) : ∃ i j, i < k ∧ j < k ∧ i ≠ j ∧ p = (B ^ i, B ^ j) := by
  unfold prs at h
  obtain ⟨i, hi, h⟩ := List.mem_flatMap.mp h
  obtain ⟨j, hj, h⟩ := List.mem_filterMap.mp h
  refine ⟨i, j, List.mem_range.mp hi, List.mem_range.mp hj, fun z => ?_, ?_⟩
  · rw [z, Nat.beq_refl] at h
    cases h
  · cases e : Nat.beq i j with
    | true => rw [e] at h; cases h
    | false => rw [e] at h; exact (Option.some.inj h).symm
theorem get_zeros : ∀ (n a : Nat), get a (List.replicate n 0) = 0
  | 0, a => get_nil a
  | n + 1, 0 => rfl
  | n + 1, a + 1 => get_zeros n a
theorem seen_good {R : List Nat → Prop} {B M k : Nat} (cl : Cld R B k) (f : Nat) {x : List Nat} (hx : R x) : Good R B M (seen B M (prs B k) f x) := by
  refine go_good cl (fun p => prs_mem) f _ _ ⟨fun c hc => ⟨x, hx, List.mem_singleton.mp hc⟩, fun a b h => ?_⟩
  rcases has_put h with h | ⟨rfl, rfl⟩
  · rw [has_iff, get_zeros, Nat.zero_testBit] at h
    cases h
  · exact ⟨x, hx, rfl, rfl⟩
theorem upto_all {f : Nat → Bool} : ∀ {n : Nat}, upto f n = true → ∀ a ≤ n, f a = true
  | 0, h, a, ha => by rw [Nat.le_zero.mp ha]; exact h
  | n + 1, h, a, ha => by
    have h' : (f (n + 1) && upto f n) = true := h
    rw [Bool.and_eq_true] at h'
    by_cases z : a = n + 1
    · rw [z]; exact h'.1
    · exact upto_all h'.2 a (by omega)
theorem allc_all {f : List Nat → Bool} : ∀ {k n : Nat} {acc : List Nat}, allc f k n acc = true → ∀ l : List Nat, l.length = k + 1 → l.sum = n → f (l.reverse ++ acc) = true
  | 0, n, acc, h, l, hl, hs => by
    match l, hl with
    | [a], _ =>
      have : a = n := by simpa using hs
      rw [this]
      exact h
  | k + 1, n, acc, h, l, hl, hs => by
    match l, hl with
    | a :: l, hl =>
      rw [List.sum_cons] at hs
      have h1 := upto_all (show upto (fun a => allc f k (Nat.sub n a) (a :: acc)) n = true from h) a (by omega)
      have h2 := allc_all (f := f) h1 l (by simpa using hl) (by show l.sum = n - a; omega)
      rw [List.reverse_cons, List.append_assoc]
      exact h2
theorem part_mem : ∀ {k n lo : Nat} {x : List Nat}, x.length = k → x.sum = n → (∀ a ∈ x, lo ≤ a) → x.Pairwise (· ≤ ·) → x ∈ part k n lo
  | 0, n, lo, x, hl, hs, _, _ => by
    match x, hl with
    | [], _ =>
      have : n = 0 := by simpa using hs.symm
      rw [this]
      exact List.mem_singleton.mpr rfl
  | k + 1, n, lo, x, hl, hs, ha, hp => by
    match x, hl with
    | a :: l, hl =>
      rw [List.sum_cons] at hs
      obtain ⟨h1, h2⟩ := List.pairwise_cons.mp hp
      refine List.mem_flatMap.mpr ⟨a, List.mem_range.mpr (by omega), ?_⟩
      rw [show Nat.blt a lo = false from by
        cases e : Nat.blt a lo with
        | false => rfl
        | true =>
          have := ha a List.mem_cons_self
          have : a < lo := Nat.le_of_ble_eq_true e
          omega]
      exact List.mem_map_of_mem (part_mem (by simpa using hl) (by omega) h1 h2)
theorem mod_dig {B a m t : Nat} (hB : 0 < B) (h : t < m) : (a % B ^ m) / B ^ t % B = a / B ^ t % B := by
  have e : a = a % B ^ m + B ^ t * (B * (B ^ (m - t - 1) * (a / B ^ m))) := by
    have h1 := Nat.mod_add_div a (B ^ m)
    have h2 : B ^ m = B ^ t * (B * B ^ (m - t - 1)) := by
      rw [← Nat.pow_succ', ← Nat.pow_add]
      congr 1
      omega
    rw [← Nat.mul_assoc B, ← Nat.mul_assoc, ← h2]
    exact h1.symm
  conv => rhs; rw [e]
  rw [Nat.add_mul_div_left _ _ (Nat.pow_pos hB), Nat.add_mul_mod_self_left]
theorem key_inj {B k : Nat} (hB : 0 < B) (hk : 2 ≤ k) {y z : List Nat} (ly : y.length = k) (lz : z.length = k) (by' : ∀ n ∈ y, n < B) (bz : ∀ n ∈ z, n < B) (hs : y.sum = z.sum)
    (h1 : en B y % B = en B z % B) (h2 : en B y / B % B ^ (k - 2) = en B z / B % B ^ (k - 2)) : y = z := by
  have dig : ∀ i, i < k - 1 → y.getD i 0 = z.getD i 0 := by
    intro i hi
    cases i with
    | zero =>
      have a := en_dig hB y 0 by'
      have b := en_dig hB z 0 bz
      rw [Nat.pow_zero, Nat.div_one] at a b
      rw [← a, ← b, h1]
    | succ i =>
      have a := en_dig hB y (i + 1) by'
      have b := en_dig hB z (i + 1) bz
      rw [Nat.pow_succ', ← Nat.div_div_eq_div_mul] at a b
      rw [← mod_dig hB (show i < k - 2 by omega)] at a b
      rw [← a, ← b, h2]
  have tk : y.take (k - 1) = z.take (k - 1) := by
    refine List.ext_getElem (by rw [List.length_take, List.length_take, ly, lz]) fun i a b => ?_
    rw [List.length_take] at a b
    have := dig i (by omega)
    rw [List.getElem_take, List.getElem_take]
    rw [List.getD_eq_getElem?_getD, List.getD_eq_getElem?_getD, List.getElem?_eq_getElem (by omega), List.getElem?_eq_getElem (by omega)] at this
    exact this
  have sp : ∀ w : List Nat, w.length = k → ∃ c, w = w.take (k - 1) ++ [c] := fun w lw => by
    have h3 := (List.take_append_drop (k - 1) w).symm
    have h4 : (w.drop (k - 1)).length = 1 := by rw [List.length_drop]; omega
    match e : w.drop (k - 1), h4 with
    | [c], _ => exact ⟨c, by rw [e] at h3; exact h3⟩
  obtain ⟨c, ey⟩ := sp y ly
  obtain ⟨d, ez⟩ := sp z lz
  rw [ey, ez, tk, List.sum_append, List.sum_append] at hs
  have : c = d := by simpa using hs
  rw [ey, ez, tk, this]
end Fc

namespace Fc
open PySem PySem.Spec PyProof.Rows L2 MG
abbrev cI (y : List Nat) : List Int := y.map Int.ofNat
theorem gcd_two : ∀ (m g : Nat), 0 < g → g < 2 ^ (m + 1) → Nat.gcd g (2 ^ m) = 2 ^ v2 g
  | 0, g, h0, h => by
    have : g = 1 := by have : g < 2 := h; omega
    rw [this, v2_odd (by decide)]
    rfl
  | m + 1, g, h0, h => by
    by_cases e : g % 2 = 1
    · rw [v2_odd e]
      have : Nat.Coprime g 2 := by
        unfold Nat.Coprime
        rw [Nat.gcd_comm, Nat.gcd_rec, e]
        rfl
      exact Nat.Coprime.pow_right _ this
    · have hg : g = 2 * (g / 2) := by omega
      rw [hg, v2_mul2 (by omega), Nat.pow_succ', Nat.pow_succ', Nat.gcd_mul_left, gcd_two m (g / 2) (by omega) (by rw [Nat.pow_succ'] at h; omega)]
theorem gN_gl : ∀ y : List Nat, gN y = gl (cI y)
  | [] => rfl
  | x :: l => by
    show Nat.gcd x (gN l) = Nat.gcd (Int.toNat (Int.ofNat x)) (gl (cI l))
    rw [gN_gl l]
    rfl
theorem gN_dvd : ∀ {y : List Nat} {e : Nat}, e ∈ y → gN y ∣ e
  | x :: l, e, h => by
    show Nat.gcd x (gN l) ∣ e
    rcases List.mem_cons.mp h with rfl | h
    · exact Nat.gcd_dvd_left _ _
    · exact Nat.dvd_trans (Nat.gcd_dvd_right _ _) (gN_dvd h)
theorem has_pos : ∀ {y : List Nat}, 0 < y.sum → ∃ e ∈ y, 0 < e
  | [], h => by simp at h
  | x :: l, h => by
    by_cases hx : 0 < x
    · exact ⟨x, List.mem_cons_self, hx⟩
    · rw [List.sum_cons] at h
      obtain ⟨e, he, h0⟩ := has_pos (y := l) (by omega)
      exact ⟨e, List.mem_cons_of_mem _ he, h0⟩
theorem le_sumN : ∀ {y : List Nat} {e : Nat}, e ∈ y → e ≤ y.sum
  | x :: l, e, h => by
    rw [List.sum_cons]
    rcases List.mem_cons.mp h with rfl | h
    · omega
    · have := le_sumN h; omega
theorem gN_bd {y : List Nat} (h : 0 < y.sum) : 0 < gN y ∧ gN y ≤ y.sum := by
  obtain ⟨e, he, h0⟩ := has_pos h
  have d := gN_dvd he
  have := le_sumN he
  have h1 := Nat.le_of_dvd h0 d
  refine ⟨?_, by omega⟩
  refine Nat.pos_of_ne_zero fun z => ?_
  rw [z, Nat.zero_dvd] at d
  omega
theorem tN_v2 {y : List Nat} (h : 0 < y.sum) (h2 : y.sum < 128) : tN y = 2 ^ v2 (gl (cI y)) := by
  unfold tN
  rw [← gN_gl]
  have := gN_bd h
  exact gcd_two 6 _ this.1 (show gN y < 128 by omega)
theorem oN_few {t : Nat} : ∀ {y : List Nat}, (∀ e ∈ y, e < 128) → oN (2 ^ t) y = (fewT t (cI y)).length
  | [], _ => rfl
  | d :: l, h => by
    have ih := oN_few (t := t) (y := l) fun e he => h e (List.mem_cons_of_mem _ he)
    have e1 : oN (2 ^ t) (d :: l) = Bool.rec (motive := fun _ => Nat) (oN (2 ^ t) l) (oN (2 ^ t) l + 1) (Bool.and (Nat.ble 1 d) (Nat.ble (Nat.gcd d 64) (2 ^ t))) := rfl
    have e2 : fewT t (cI (d :: l)) = if (decide ((Int.ofNat d) > 0) && decide (v2 (Int.ofNat d).toNat ≤ t)) then Int.ofNat d :: fewT t (cI l) else fewT t (cI l) := by
      unfold fewT cI
      rw [List.map_cons, List.filter_cons]
    have e3 : Bool.and (Nat.ble 1 d) (Nat.ble (Nat.gcd d 64) (2 ^ t)) = (decide ((Int.ofNat d) > 0) && decide (v2 (Int.ofNat d).toNat ≤ t)) := by
      rw [show Bool.and (Nat.ble 1 d) (Nat.ble (Nat.gcd d 64) (2 ^ t)) = (Nat.ble 1 d && Nat.ble (Nat.gcd d 64) (2 ^ t)) from rfl]
      by_cases hd : 0 < d
      · rw [show Nat.ble 1 d = true from Nat.ble_eq_true_of_le hd, decide_eq_true (show (Int.ofNat d) > 0 by show (d : Int) > 0; omega)]
        rw [show Nat.gcd d 64 = 2 ^ v2 d from gcd_two 6 d hd (h d List.mem_cons_self), Bool.true_and, Bool.true_and]
        show Nat.ble (2 ^ v2 d) (2 ^ t) = decide (v2 d ≤ t)
        by_cases k : v2 d ≤ t
        · rw [decide_eq_true k]
          exact Nat.ble_eq_true_of_le (Nat.pow_le_pow_right (by decide) k)
        · rw [decide_eq_false k]
          have : 2 ^ t < 2 ^ v2 d := Nat.pow_lt_pow_right (by decide) (by omega)
          cases e : Nat.ble (2 ^ v2 d) (2 ^ t) with
          | false => rfl
          | true => have := Nat.le_of_ble_eq_true e; omega
      · have : d = 0 := by omega
        subst this
        rfl
    rw [e1, e2, e3, ih]
    cases (decide ((Int.ofNat d) > 0) && decide (v2 (Int.ofNat d).toNat ≤ t)) <;> rfl
theorem hN_cnt : ∀ {y : List Nat}, hN y = cnt (cI y)
  | [] => rfl
  | d :: l => by
    have ih := hN_cnt (y := l)
    have e1 : hN (d :: l) = Bool.rec (motive := fun _ => Nat) (hN l) (hN l + 1) (Nat.ble 1 d) := rfl
    have e2 : cnt (cI (d :: l)) = ((cI (d :: l)).filter fun n => decide (0 < n)).length := rfl
    rw [e1, e2]
    unfold cI
    rw [List.map_cons, List.filter_cons, ih]
    by_cases hd : 0 < d
    · rw [show Nat.ble 1 d = true from Nat.ble_eq_true_of_le hd, decide_eq_true (show 0 < (Int.ofNat d) by show (0 : Int) < (d : Int); omega), if_pos rfl]
      rfl
    · have : d = 0 := by omega
      subst this
      rfl
theorem bad_not {x y : List Nat} (hx : 0 < x.sum) (hx2 : x.sum < 128) (hy : y.sum = x.sum) (h : bad x y = true) (c : Cl (cI x) (cI y)) : False := by
  have tx := tN_v2 hx hx2
  have ty := tN_v2 (y := y) (by omega) (by omega)
  have gx := gN_bd hx
  have lx : ∀ e ∈ x, e < 128 := fun e he => by have := le_sumN he; omega
  have ly : ∀ e ∈ y, e < 128 := fun e he => by have := le_sumN he; omega
  have ox : oN (tN x) x = od (cI x) := by rw [tx]; exact oN_few lx
  have oy : oN (tN y) y = od (cI y) := by rw [ty]; exact oN_few ly
  have pw : ∀ {a b : Nat}, (2 : Nat) ^ a < 2 ^ b → a < b := fun {a b} h => (Nat.pow_lt_pow_iff_right (by decide)).mp h
  have pe : ∀ {a b : Nat}, (2 : Nat) ^ a = 2 ^ b → a = b := fun {a b} h => by
    rcases Nat.lt_trichotomy a b with z | z | z
    · have := Nat.pow_lt_pow_right (show 1 < 2 by decide) z; omega
    · exact z
    · have := Nat.pow_lt_pow_right (show 1 < 2 by decide) z; omega
  have h' : (!(Nat.beq (gN x / tN x) (gN y / tN y)) || (Nat.ble (tN y + 1) (tN x) || (Nat.beq (tN y) (tN x) && (Nat.ble (oN (tN x) x + 1) (oN (tN y) y) || Nat.beq (oN (tN y) y) (hN y))))) = true := h
  rw [Bool.or_eq_true, Bool.or_eq_true, Bool.and_eq_true, Bool.or_eq_true] at h'
  rcases h' with h | h | ⟨h1, h | h⟩
  · have m := c.ms
    rw [ms_nat, ms_nat, ← gN_gl, ← gN_gl] at m
    rw [tx, ty, ← gN_gl, ← gN_gl] at h
    have m' : gN y / 2 ^ v2 (gN y) = gN x / 2 ^ v2 (gN x) := by omega
    rw [m', Nat.beq_refl] at h
    cases h
  · have := Nat.le_of_ble_eq_true h
    rw [tx, ty] at this
    have := pw (show 2 ^ v2 (gl (cI y)) < 2 ^ v2 (gl (cI x)) by omega)
    have := c.tw
    omega
  · have e := Nat.eq_of_beq_eq_true h1
    rw [tx, ty] at e
    have := c.od (pe e)
    have h2 := Nat.le_of_ble_eq_true h
    rw [ox, oy] at h2
    omega
  · have e := Nat.eq_of_beq_eq_true h1
    rw [tx, ty] at e
    have h2 := Nat.eq_of_beq_eq_true h
    rw [oy, hN_cnt, cnt_hold] at h2
    exact c.dbl (pe e) h2
/-- what the check tells -/
theorem chk_tells {B k n f : Nat} (hk : 2 ≤ k) (hn : 0 < n) (hB : n < B) (h128 : n < 128) (h : chk B k n f = true) {x y : List Nat} (lx : x.length = k) (sx : x.sum = n) (px : ∀ a ∈ x, 1 ≤ a) (so : x.Pairwise (· ≤ ·))
    (ly : y.length = k) (sy : y.sum = n) (c : Cl (cI x) (cI y)) : Re (cI x) (cI y) := by
  have h1 := List.all_eq_true.mp h x (part_mem lx sx px so)
  have h2 := allc_all (f := _) h1 y.reverse (by rw [List.length_reverse]; omega) (by rw [List.sum_reverse]; exact sy)
  rw [List.reverse_reverse, List.append_nil] at h2
  have h3 : (has (seen B (Nat.pow B (k - 2)) (prs B k) f x) (en B y % B) (en B y / B % B ^ (k - 2)) || bad x y) = true := h2
  rw [Bool.or_eq_true] at h3
  rcases h3 with h3 | h3
  · have cl : Cld (fun z => z.length = k ∧ z.sum = n ∧ Re (cI x) (cI z)) B k := by
      refine ⟨by omega, fun z hz => hz.1, fun z hz e he => by have := le_sumN he; rw [hz.2.1] at this; omega, ?_⟩
      rintro z i j ⟨hl, hs, hr⟩ hi hj ne hp hle
      have mg : MayG (cI z) i j := ⟨by rw [List.length_map]; omega, by rw [List.length_map]; omega, ne, by rw [getD_cast]; show (0 : Int) < ((z.getD j 0 : Nat) : Int); omega, by rw [getD_cast, getD_cast]; show ((z.getD j 0 : Nat) : Int) ≤ ((z.getD i 0 : Nat) : Int); omega⟩
      have re : Re (cI x) (cI (dN z i j)) := by rw [show cI (dN z i j) = deed (cI z) i j from dN_cast hle]; exact .step hr mg
      refine ⟨by rw [dN_len]; exact hl, ?_, re⟩
      have s1 := deed_sum mg
      rw [show deed (cI z) i j = cI (dN z i j) from (dN_cast hle).symm] at s1
      have sc : ∀ w : List Nat, (cI w).sum = ((w.sum : Nat) : Int) := fun w => by
        induction w with
        | nil => rfl
        | cons a w ih =>
          show (Int.ofNat a :: cI w).sum = _
          rw [List.sum_cons, List.sum_cons, ih]
          show (a : Int) + _ = _
          omega
      rw [sc, sc] at s1
      omega
    obtain ⟨z, ⟨lz, sz, rz⟩, k1, k2⟩ := seen_good cl f (x := x) ⟨lx, sx, .refl⟩ _ _ h3
    have : z = y := key_inj (by omega) hk lz ly (fun e he => by have := le_sumN he; omega) (fun e he => by have := le_sumN he; omega) (by omega) k1 k2
    rw [← this]
    exact rz
  · exact (bad_not (by omega) (by omega) (by omega) h3 c).elim
/-- a row laid out by places -/
structure Lay (s : List Nat) (r x : List Int) : Prop where
  len : x.length = s.length
  lt : ∀ p ∈ s, p < r.length
  on : ∀ i, i < s.length → r.getD (s.getD i 0) 0 = x.getD i 0
  off : ∀ p, p ∉ s → r.getD p 0 = 0
theorem nd_inj : ∀ {s : List Nat} {i j : Nat}, s.Nodup → i < s.length → j < s.length → s.getD i 0 = s.getD j 0 → i = j
  | a :: s, 0, 0, _, _, _, _ => rfl
  | a :: s, 0, j + 1, nd, _, hj, e => by
    have hj' : j < s.length := by simpa using hj
    have e' : a = s.getD j 0 := e
    rw [List.getD_eq_getElem?_getD, List.getElem?_eq_getElem hj'] at e'
    exact ((List.nodup_cons.mp nd).1 (by rw [e']; exact List.getElem_mem hj')).elim
  | a :: s, i + 1, 0, nd, hi, _, e => by
    have hi' : i < s.length := by simpa using hi
    have e' : s.getD i 0 = a := e
    rw [List.getD_eq_getElem?_getD, List.getElem?_eq_getElem hi'] at e'
    exact ((List.nodup_cons.mp nd).1 (by rw [← e']; exact List.getElem_mem hi')).elim
  | a :: s, i + 1, j + 1, nd, hi, hj, e => by
    rw [nd_inj (List.nodup_cons.mp nd).2 (by simpa using hi) (by simpa using hj) e]
theorem at_mem {s : List Nat} {i : Nat} (h : i < s.length) : s.getD i 0 ∈ s := by
  rw [List.getD_eq_getElem?_getD, List.getElem?_eq_getElem h]
  exact List.getElem_mem h
theorem Lay.may {s : List Nat} {r x : List Int} (L : Lay s r x) (nd : s.Nodup) {i j : Nat} (m : MayG x i j) : MayG r (s.getD i 0) (s.getD j 0) ∧ Lay s (deed r (s.getD i 0) (s.getD j 0)) (deed x i j) := by
  have hi : i < s.length := by rw [← L.len]; exact m.hi
  have hj : j < s.length := by rw [← L.len]; exact m.hj
  have mr : MayG r (s.getD i 0) (s.getD j 0) := by
    refine ⟨L.lt _ (at_mem hi), L.lt _ (at_mem hj), fun z => m.ne (nd_inj nd hi hj z), ?_, ?_⟩
    · rw [L.on j hj]; exact m.pj
    · rw [L.on j hj, L.on i hi]; exact m.ge
  refine ⟨mr, by rw [deed_len]; exact L.len, fun p hp => by rw [deed_len]; exact L.lt p hp, fun q hq => ?_, fun p hp => ?_⟩
  · rw [deed_get mr, deed_get m, L.on i hi, L.on j hj, L.on q hq]
    by_cases h1 : q = j
    · rw [h1, if_pos rfl, if_pos rfl]
    · rw [if_neg h1, if_neg (fun z => h1 (nd_inj nd hq hj z))]
      by_cases h2 : q = i
      · rw [h2, if_pos rfl, if_pos rfl]
      · rw [if_neg h2, if_neg (fun z => h2 (nd_inj nd hq hi z))]
  · rw [deed_get mr, if_neg (fun z => hp (by rw [z]; exact at_mem hj)), if_neg (fun z => hp (by rw [z]; exact at_mem hi))]
    exact L.off p hp
theorem Lay.re {s : List Nat} (nd : s.Nodup) {r x y : List Int} (L : Lay s r x) (h : Re x y) : ∃ o, Re r o ∧ Lay s o y := by
  induction h with
  | refl => exact ⟨r, .refl, L⟩
  | step _ m ih =>
    obtain ⟨o, ho, Lo⟩ := ih
    have := Lo.may nd m
    exact ⟨_, .step ho this.1, this.2⟩
theorem Lay.eq {s : List Nat} {r r' x : List Int} (L : Lay s r x) (L' : Lay s r' x) (l : r.length = r'.length) : r = r' := by
  refine List.ext_getElem l fun p a b => ?_
  have : r.getD p 0 = r'.getD p 0 := by
    by_cases h : p ∈ s
    · obtain ⟨i, hi, e⟩ := List.getElem_of_mem h
      have e' : s.getD i 0 = p := by rw [List.getD_eq_getElem?_getD, List.getElem?_eq_getElem hi]; exact e
      rw [← e', L.on i hi, L'.on i hi]
    · rw [L.off p h, L'.off p h]
  rwa [getD_eq a, getD_eq b] at this
/-- of so many holders and such a sum all that no clause bars is come to -/
def Full (k : Nat) (n : Int) : Prop := ∀ r o : List Int, (∀ e ∈ r, 0 ≤ e) → (∀ e ∈ o, 0 ≤ e) → r.length = o.length → r.sum = n → cnt r = k → brkF r o = [] → Re r o
theorem sum_cI (w : List Nat) : (cI w).sum = ((w.sum : Nat) : Int) := by
  induction w with
  | nil => rfl
  | cons a w ih =>
    show (Int.ofNat a :: cI w).sum = _
    rw [List.sum_cons, List.sum_cons, ih]
    show (a : Int) + _ = _
    omega
theorem chk_full {B k n f : Nat} (hk : 3 ≤ k) (hn : 0 < n) (hB : n < B) (h128 : n < 128) (h : chk B k n f = true) : Full k n := by
  intro r o nr no l hs hc hb
  by_cases hro : r = o
  · rw [hro]; exact .refl
  have cl : Cl r o := by
    rcases brkF_nil.mp hb with z | ⟨_, z, _⟩
    · exact (hro z).elim
    · exact cl_iff.mp z
  let s0 := (List.range r.length).filter fun p => decide (0 < r.getD p 0)
  let s := s0.mergeSort fun p q => decide (r.getD p 0 ≤ r.getD q 0)
  have ps : s.Perm s0 := List.mergeSort_perm _ _
  have nd : s.Nodup := ps.nodup_iff.mpr (List.Pairwise.filter _ List.nodup_range)
  have mem : ∀ p, p ∈ s ↔ p < r.length ∧ 0 < r.getD p 0 := fun p => by
    rw [ps.mem_iff, List.mem_filter, List.mem_range, decide_eq_true_eq]
  have off : ∀ p, p ∉ s → r.getD p 0 = 0 := fun p hp => by
    by_cases hl : p < r.length
    · have h1 : ¬ 0 < r.getD p 0 := fun z => hp ((mem p).mpr ⟨hl, z⟩)
      have h2 : 0 ≤ r.getD p 0 := by rw [getD_eq hl]; exact nr _ (List.getElem_mem _)
      omega
    · rw [List.getD_eq_getElem?_getD, List.getElem?_eq_none (by omega)]; rfl
  have offo : ∀ p, p ∉ s → o.getD p 0 = 0 := fun p hp => hfn_pos l no cl.hf p (off p hp)
  have atr : ∀ p, 0 ≤ r.getD p 0 := fun p => at_nn nr p
  have ato : ∀ p, 0 ≤ o.getD p 0 := fun p => at_nn no p
  let x := s.map fun p => (r.getD p 0).toNat
  let y := s.map fun p => (o.getD p 0).toNat
  have ex : cI x = s.map fun p => r.getD p 0 := by
    show (s.map _).map _ = _
    rw [List.map_map]
    refine List.map_congr_left fun p _ => ?_
    show (((r.getD p 0).toNat : Nat) : Int) = _
    have := atr p
    omega
  have ey : cI y = s.map fun p => o.getD p 0 := by
    show (s.map _).map _ = _
    rw [List.map_map]
    refine List.map_congr_left fun p _ => ?_
    show (((o.getD p 0).toNat : Nat) : Int) = _
    have := ato p
    omega
  have al : Alike (cI x) (cI y) r o ((List.range r.length).filter fun p => !decide (0 < r.getD p 0)).length := by
    refine ⟨by rw [ex, ey, List.length_map, List.length_map], l, ?_⟩
    rw [← zip_range l, ex, ey, List.zip_map']
    have h1 := (List.filter_append_perm (fun p => decide (0 < r.getD p 0)) (List.range r.length)).symm
    have h2 := h1.map fun j => (r.getD j 0, o.getD j 0)
    rw [List.map_append] at h2
    refine h2.trans (List.Perm.append (ps.symm.map _) ?_)
    have : (((List.range r.length).filter fun p => !decide (0 < r.getD p 0)).map fun j => (r.getD j 0, o.getD j 0)) = List.replicate ((List.range r.length).filter fun p => !decide (0 < r.getD p 0)).length (0, 0) := by
      refine List.eq_replicate_iff.mpr ⟨List.length_map _, fun b hb => ?_⟩
      obtain ⟨p, hp, rfl⟩ := List.mem_map.mp hb
      have h3 : p ∉ s := fun z => by
        have := ((mem p).mp z).2
        have h4 := (List.mem_filter.mp hp).2
        rw [decide_eq_true this] at h4
        cases h4
      rw [off p h3, offo p h3]
    rw [this]
  have sx : x.sum = n := by
    have h1 := sum_more al.fst
    rw [hs, sum_cI] at h1
    omega
  have sy : y.sum = n := by
    have h1 := sum_more al.snd
    rw [cl.sum, hs, sum_cI] at h1
    omega
  have lx : x.length = k := by
    have h1 : s.length = s0.length := ps.length_eq
    have h2 : s0.length = cnt r := by
      rw [cnt_hold]
      show ((List.range r.length).filter _).length = (hold r r.length).length
      unfold hold
      rw [List.length_map]
    rw [List.length_map, h1, h2, hc]
  have ly : y.length = k := by rw [List.length_map, ← lx, List.length_map]
  have px : ∀ a ∈ x, 1 ≤ a := fun a ha => by
    obtain ⟨p, hp, rfl⟩ := List.mem_map.mp ha
    have := ((mem p).mp hp).2
    show 1 ≤ (r.getD p 0).toNat
    omega
  have so : x.Pairwise (· ≤ ·) := by
    have h1 : s.Pairwise fun p q => decide (r.getD p 0 ≤ r.getD q 0) = true := by
      refine List.pairwise_mergeSort (fun a b c h1 h2 => ?_) (fun a b => ?_) _
      · rw [decide_eq_true_eq] at *
        omega
      · rw [Bool.or_eq_true, decide_eq_true_eq, decide_eq_true_eq]
        omega
    refine List.Pairwise.map _ (fun a b h => ?_) h1
    rw [decide_eq_true_eq] at h
    omega
  have nX : ∀ (w : List Nat), ∀ e ∈ cI w, 0 ≤ e := fun w e he => by
    obtain ⟨a, _, rfl⟩ := List.mem_map.mp he
    exact Int.natCast_nonneg a
  have bxy : brkF (cI x) (cI y) = [] := by rw [← al.brk (nX x) (nX y)]; exact hb
  have re : Re (cI x) (cI y) := by
    rcases brkF_nil.mp bxy with z | ⟨_, z, _⟩
    · rw [z]; exact .refl
    · exact chk_tells (by omega) hn hB h128 h lx sx px so ly sy (cl_iff.mp z)
  have lay : ∀ w : List Int, w.length = r.length → (∀ p, p ∉ s → w.getD p 0 = 0) → Lay s w (s.map fun p => w.getD p 0) := fun w lw h1 => by
    refine ⟨List.length_map _, fun p hp => by rw [lw]; exact ((mem p).mp hp).1, fun i hi => ?_, h1⟩
    rw [List.getD_eq_getElem?_getD (l := s.map _), List.getElem?_map, List.getD_eq_getElem?_getD (l := s), List.getElem?_eq_getElem hi]
    rfl
  have Lr := lay r rfl off
  have Lo := lay o l.symm offo
  rw [← ex] at Lr
  rw [← ey] at Lo
  obtain ⟨o', ho, Lo'⟩ := Lr.re nd re
  have lo' : o'.length = o.length := by rw [(ho.keeps nr).1, l]
  rw [Lo.eq Lo' lo'.symm]
  exact ho
end Fc

namespace Fc
theorem c3_1 : chk 16 3 1 1000000 = true := by decide +kernel
theorem c3_2 : chk 16 3 2 1000000 = true := by decide +kernel
theorem c3_3 : chk 16 3 3 1000000 = true := by decide +kernel
theorem c3_4 : chk 16 3 4 1000000 = true := by decide +kernel
theorem c3_5 : chk 16 3 5 1000000 = true := by decide +kernel
theorem c3_6 : chk 16 3 6 1000000 = true := by decide +kernel
theorem c3_7 : chk 16 3 7 1000000 = true := by decide +kernel
theorem c3_8 : chk 16 3 8 1000000 = true := by decide +kernel
theorem c3_9 : chk 16 3 9 1000000 = true := by decide +kernel
theorem c3_10 : chk 16 3 10 1000000 = true := by decide +kernel
theorem c3_11 : chk 16 3 11 1000000 = true := by decide +kernel
theorem c3_12 : chk 16 3 12 1000000 = true := by decide +kernel
theorem c3_13 : chk 16 3 13 1000000 = true := by decide +kernel
theorem c3_14 : chk 16 3 14 1000000 = true := by decide +kernel
theorem full3 : ∀ n : Nat, 1 ≤ n → n ≤ 14 → Full 3 n
  | 0, h, _ => by omega
  | 1, _, _ => chk_full (by decide) (by decide) (by decide) (by decide) c3_1
  | 2, _, _ => chk_full (by decide) (by decide) (by decide) (by decide) c3_2
  | 3, _, _ => chk_full (by decide) (by decide) (by decide) (by decide) c3_3
  | 4, _, _ => chk_full (by decide) (by decide) (by decide) (by decide) c3_4
  | 5, _, _ => chk_full (by decide) (by decide) (by decide) (by decide) c3_5
  | 6, _, _ => chk_full (by decide) (by decide) (by decide) (by decide) c3_6
  | 7, _, _ => chk_full (by decide) (by decide) (by decide) (by decide) c3_7
  | 8, _, _ => chk_full (by decide) (by decide) (by decide) (by decide) c3_8
  | 9, _, _ => chk_full (by decide) (by decide) (by decide) (by decide) c3_9
  | 10, _, _ => chk_full (by decide) (by decide) (by decide) (by decide) c3_10
  | 11, _, _ => chk_full (by decide) (by decide) (by decide) (by decide) c3_11
  | 12, _, _ => chk_full (by decide) (by decide) (by decide) (by decide) c3_12
  | 13, _, _ => chk_full (by decide) (by decide) (by decide) (by decide) c3_13
  | 14, _, _ => chk_full (by decide) (by decide) (by decide) (by decide) c3_14
  | n + 15, _, h => by omega
end Fc

namespace Fc
theorem c4_1 : chk 16 4 1 1000000 = true := by decide +kernel
theorem c4_2 : chk 16 4 2 1000000 = true := by decide +kernel
theorem c4_3 : chk 16 4 3 1000000 = true := by decide +kernel
theorem c4_4 : chk 16 4 4 1000000 = true := by decide +kernel
theorem c4_5 : chk 16 4 5 1000000 = true := by decide +kernel
theorem c4_6 : chk 16 4 6 1000000 = true := by decide +kernel
theorem c4_7 : chk 16 4 7 1000000 = true := by decide +kernel
theorem c4_8 : chk 16 4 8 1000000 = true := by decide +kernel
theorem c4_9 : chk 16 4 9 1000000 = true := by decide +kernel
theorem c4_10 : chk 16 4 10 1000000 = true := by decide +kernel
theorem c4_11 : chk 16 4 11 1000000 = true := by decide +kernel
theorem c4_12 : chk 16 4 12 1000000 = true := by decide +kernel
theorem c4_13 : chk 16 4 13 1000000 = true := by decide +kernel
theorem c4_14 : chk 16 4 14 1000000 = true := by decide +kernel
theorem full4 : ∀ n : Nat, 1 ≤ n → n ≤ 14 → Full 4 n
  | 0, h, _ => by omega
  | 1, _, _ => chk_full (by decide) (by decide) (by decide) (by decide) c4_1
  | 2, _, _ => chk_full (by decide) (by decide) (by decide) (by decide) c4_2
  | 3, _, _ => chk_full (by decide) (by decide) (by decide) (by decide) c4_3
  | 4, _, _ => chk_full (by decide) (by decide) (by decide) (by decide) c4_4
  | 5, _, _ => chk_full (by decide) (by decide) (by decide) (by decide) c4_5
  | 6, _, _ => chk_full (by decide) (by decide) (by decide) (by decide) c4_6
  | 7, _, _ => chk_full (by decide) (by decide) (by decide) (by decide) c4_7
  | 8, _, _ => chk_full (by decide) (by decide) (by decide) (by decide) c4_8
  | 9, _, _ => chk_full (by decide) (by decide) (by decide) (by decide) c4_9
  | 10, _, _ => chk_full (by decide) (by decide) (by decide) (by decide) c4_10
  | 11, _, _ => chk_full (by decide) (by decide) (by decide) (by decide) c4_11
  | 12, _, _ => chk_full (by decide) (by decide) (by decide) (by decide) c4_12
  | 13, _, _ => chk_full (by decide) (by decide) (by decide) (by decide) c4_13
  | 14, _, _ => chk_full (by decide) (by decide) (by decide) (by decide) c4_14
  | n + 15, _, h => by omega
end Fc

/-! MMd: what is come to is barred by no clause; rows of three or four holders and a sum of 14 at most: the other way about too -/
namespace MG
open PySem PySem.Spec PyProof.Rows L2
theorem re_brk {r o : List Int} (nr : ∀ n ∈ r, 0 ≤ n) (h : Re r o) : brkF r o = [] := by
  induction h with
  | refl => exact brkF_nil.mpr (.inl rfl)
  | step g m ih =>
    have k := (g.keeps nr).2.2
    exact brk_trans nr k (deed_nn m k) ih (brk_deed m k)
theorem cnt_sum : ∀ {r : List Int}, (∀ n ∈ r, 0 ≤ n) → (cnt r : Int) ≤ r.sum
  | [], _ => Int.le_refl _
  | x :: r, h => by
    have ih := cnt_sum (r := r) fun n hn => h n (List.mem_cons_of_mem _ hn)
    have hx := h x List.mem_cons_self
    unfold MG.cnt at ih ⊢
    rw [List.filter_cons, List.sum_cons]
    by_cases h0 : 0 < x
    · rw [if_pos (decide_eq_true h0), List.length_cons]
      omega
    · rw [if_neg (by rw [decide_eq_false h0]; decide)]
      omega
theorem come4 {r o : List Int} (nr : ∀ n ∈ r, 0 ≤ n) (no : ∀ n ∈ o, 0 ≤ n) (l : r.length = o.length) (c3 : 3 ≤ cnt r) (c4 : cnt r ≤ 4) (hs : r.sum ≤ 14) (hb : brkF r o = []) : Re r o := by
  have h := cnt_sum nr
  obtain ⟨n, hn⟩ : ∃ n : Nat, r.sum = n := ⟨r.sum.toNat, by omega⟩
  by_cases c : cnt r = 3
  · exact Fc.full3 n (by omega) (by omega) r o nr no l hn c hb
  · exact Fc.full4 n (by omega) (by omega) r o nr no l hn (by omega) hb
end MG

namespace Fc
theorem c5_1 : chk 16 5 1 1000000 = true := by decide +kernel
theorem c5_2 : chk 16 5 2 1000000 = true := by decide +kernel
theorem c5_3 : chk 16 5 3 1000000 = true := by decide +kernel
theorem c5_4 : chk 16 5 4 1000000 = true := by decide +kernel
theorem c5_5 : chk 16 5 5 1000000 = true := by decide +kernel
theorem c5_6 : chk 16 5 6 1000000 = true := by decide +kernel
theorem c5_7 : chk 16 5 7 1000000 = true := by decide +kernel
theorem c5_8 : chk 16 5 8 1000000 = true := by decide +kernel
theorem c5_9 : chk 16 5 9 1000000 = true := by decide +kernel
theorem c5_10 : chk 16 5 10 1000000 = true := by decide +kernel
theorem c5_11 : chk 16 5 11 1000000 = true := by decide +kernel
theorem c5_12 : chk 16 5 12 1000000 = true := by decide +kernel
theorem full5 : ∀ n : Nat, 1 ≤ n → n ≤ 12 → Full 5 n
  | 0, h, _ => by omega
  | 1, _, _ => chk_full (by decide) (by decide) (by decide) (by decide) c5_1
  | 2, _, _ => chk_full (by decide) (by decide) (by decide) (by decide) c5_2
  | 3, _, _ => chk_full (by decide) (by decide) (by decide) (by decide) c5_3
  | 4, _, _ => chk_full (by decide) (by decide) (by decide) (by decide) c5_4
  | 5, _, _ => chk_full (by decide) (by decide) (by decide) (by decide) c5_5
  | 6, _, _ => chk_full (by decide) (by decide) (by decide) (by decide) c5_6
  | 7, _, _ => chk_full (by decide) (by decide) (by decide) (by decide) c5_7
  | 8, _, _ => chk_full (by decide) (by decide) (by decide) (by decide) c5_8
  | 9, _, _ => chk_full (by decide) (by decide) (by decide) (by decide) c5_9
  | 10, _, _ => chk_full (by decide) (by decide) (by decide) (by decide) c5_10
  | 11, _, _ => chk_full (by decide) (by decide) (by decide) (by decide) c5_11
  | 12, _, _ => chk_full (by decide) (by decide) (by decide) (by decide) c5_12
  | n + 13, _, h => by omega
end Fc

/-! MMe: three to five holders and a sum of 12 at most; a meeting is told just where there is a row that comes of all -/
namespace MG
open PySem PySem.Spec PyProof.Rows L2
theorem come12 {r o : List Int} (nr : ∀ n ∈ r, 0 ≤ n) (no : ∀ n ∈ o, 0 ≤ n) (l : r.length = o.length) (c3 : 3 ≤ cnt r) (c5 : cnt r ≤ 5) (hs : r.sum ≤ 12) (hb : brkF r o = []) : Re r o := by
  by_cases c : cnt r ≤ 4
  · exact come4 nr no l c3 c (by omega) hb
  · have h := cnt_sum nr
    obtain ⟨n, hn⟩ : ∃ n : Nat, r.sum = n := ⟨r.sum.toNat, by omega⟩
    exact Fc.full5 n (by omega) (by omega) r o nr no l hn (by omega) hb
theorem brkT_cl {r o : List Int} (h : brkT r o = []) : r = o ∨ (r.length = o.length ∧ Cl r o) := by
  unfold brkT at h
  by_cases e : r = o
  · exact .inl e
  · rw [if_neg e] at h
    by_cases l : r.length ≠ o.length
    · rw [if_pos l] at h
      cases h
    · rw [if_neg l] at h
      exact .inr ⟨Decidable.of_not_not l, cl_iff.mp h⟩
theorem meet_all {n : Nat} {S : Int} {R : List (List Int)} {o : List Int} (h : meetF n S R = some o) : (∀ r ∈ R, r.length = n ∧ r.sum = S) ∧ ∀ r ∈ R, brkT r o = [] := by
  unfold meetF at h
  cases hu : unlike n S R with
  | true => rw [hu, if_pos rfl] at h; cases h
  | false =>
    rw [hu, if_neg Bool.false_ne_true] at h
    refine ⟨fun r hr => ?_, fun r hr => ?_⟩
    · unfold unlike at hu
      have := List.any_eq_false.mp hu r hr
      simp only [Bool.or_eq_true, decide_eq_true_eq, not_or, ne_eq, Decidable.not_not] at this
      exact this
    · split at h
      · cases h
      · split at h
        · rename_i h1
          cases h
          exact h1 r hr
        · cases h
/-- where a row comes of all, a meeting is told -/
theorem meet_told {n : Nat} {S : Int} {R : List (List Int)} {r0 o : List Int} (h0 : r0 ∈ R) (l0 : r0.length = n) (S0 : r0.sum = S) (nn : ∀ r ∈ R, ∀ x ∈ r, 0 ≤ x) (h3 : ∀ r ∈ R, 3 ≤ (hold r r.length).length) (hS : 0 < S) (no : ∀ x ∈ o, 0 ≤ x)
    (hb : ∀ r ∈ R, brkT r o = []) : (meetF n S R).isSome = true := by
  have eqs : ∀ r ∈ R, r.length = o.length ∧ o.sum = r.sum ∧ ms o = ms r ∧ ∀ p, r.getD p 0 = 0 → o.getD p 0 = 0 := fun r hr => by
    rcases brkT_cl (hb r hr) with z | ⟨l, c⟩
    · subst z
      exact ⟨rfl, rfl, rfl, fun p h => h⟩
    · exact ⟨l, c.sum, c.ms, fun p h => hfn_pos l no c.hf p h⟩
  have e0 := eqs r0 h0
  have lo : o.length = n := by rw [← l0, e0.1]
  have so : o.sum = S := by rw [← S0, e0.2.1]
  rw [meet_due h0 nn h3 hS]
  refine ⟨?_, fun r hr => by rw [← (eqs r hr).2.2.1, e0.2.2.1], ?_⟩
  · unfold unlike
    refine List.any_eq_false.mpr fun r hr => ?_
    have := eqs r hr
    simp only [Bool.or_eq_true, decide_eq_true_eq, not_or, ne_eq, Decidable.not_not]
    exact ⟨by rw [this.1, lo], by rw [← this.2.1, so]⟩
  · -- the holders of o have something in all of them
    have sub : ∀ p, p < n → 0 < o.getD p 0 → (p : Int) ∈ plF n R := fun p hp h => by
      refine List.mem_map.mpr ⟨p, List.mem_filter.mpr ⟨List.mem_range.mpr hp, List.all_eq_true.mpr fun r hr => decide_eq_true ?_⟩, rfl⟩
      have h1 := (eqs r hr).2.2.2 p
      have h2 := at_nn (nn r hr) p
      by_cases z : r.getD p 0 = 0
      · rw [h1 z] at h; omega
      · omega
    by_cases one : ∃ p, p < n ∧ ∀ q, q ≠ p → o.getD q 0 = 0
    · obtain ⟨p, hp, hq⟩ := one
      have hz : ∀ q, o.getD q 0 = ((List.replicate n (0 : Int)).set p (o.getD p 0)).getD q 0 := fun q => by
        by_cases e : q = p
        · subst e
          rw [List.getD_eq_getElem?_getD (l := List.set _ _ _), List.getElem?_set_self (by rw [List.length_replicate]; exact hp)]
          rfl
        · rw [hq q e, List.getD_eq_getElem?_getD, List.getElem?_set_ne (fun z => e z.symm), ← List.getD_eq_getElem?_getD, rep_at]
      have eo : o = (List.replicate n (0 : Int)).set p (o.getD p 0) := by
        refine List.ext_getElem (by rw [List.length_set, List.length_replicate, lo]) fun q a b => ?_
        have := hz q
        rwa [getD_eq a, getD_eq b] at this
      have hp' : p < o.length := by omega
      have sp : o.getD p 0 = S := by
        rw [← so]
        rw [eo, sum_setG _ p (by rw [List.length_replicate]; exact hp), sum_zero (l := List.replicate n (0 : Int)) fun x hx => List.eq_of_mem_replicate hx]
        rw [List.getElem_replicate, ← hz p]
        omega
      have hpl := sub p hp (by omega)
      have hlen := List.length_pos_of_mem hpl
      by_cases two : 2 ≤ (plF n R).length
      · exact .inl two
      · refine .inr ⟨by omega, ?_⟩
        have g1 : gl o = S.toNat := by
          apply Nat.dvd_antisymm
          · have := gl_dvd (l := o) (n := S) (by rw [← sp, getD_eq hp']; exact List.getElem_mem hp')
            exact this
          · have : ∀ {l : List Int}, (∀ x ∈ l, S.toNat ∣ x.toNat) → S.toNat ∣ gl l := by
              intro l
              induction l with
              | nil => intro _; exact Nat.dvd_zero _
              | cons x l ih => intro h; exact Nat.dvd_gcd (h x List.mem_cons_self) (ih fun y hy => h y (List.mem_cons_of_mem _ hy))
            refine this fun x hx => ?_
            obtain ⟨q, hq1, rfl⟩ := List.getElem_of_mem hx
            by_cases e : q = p
            · subst e
              rw [← getD_eq hq1, sp]
              exact Nat.dvd_refl _
            · rw [← getD_eq hq1, hq q e]
              exact Nat.dvd_zero _
        have h1 := e0.2.2.1
        rw [ms_nat, ms_nat, g1] at h1
        omega
    · left
      have hpos : ∃ x ∈ o, 0 < x := by
        apply Classical.byContradiction
        intro z
        have : o.sum = 0 := sum_zero fun x hx => by
          have := no x hx
          have : ¬ 0 < x := fun y => z ⟨x, hx, y⟩
          omega
        omega
      obtain ⟨x, hx, hx0⟩ := hpos
      obtain ⟨p, hp, rfl⟩ := List.getElem_of_mem hx
      have h2 : ∃ q, q ≠ p ∧ o.getD q 0 ≠ 0 := by
        apply Classical.byContradiction
        intro z
        exact one ⟨p, by omega, fun q e => Classical.byContradiction fun y => z ⟨q, e, y⟩⟩
      obtain ⟨q, hq, hq0⟩ := h2
      have ql : q < o.length := by
        apply Classical.byContradiction
        intro z
        rw [List.getD_eq_getElem?_getD, List.getElem?_eq_none (by omega)] at hq0
        exact hq0 rfl
      have a := sub p (by omega) (by rw [getD_eq hp]; exact hx0)
      have b := sub q (by omega) (by have := at_nn no q; omega)
      match h : plF n R, a, b with
      | [], a, _ => cases a
      | [c], a, b =>
        rw [List.mem_singleton] at a b
        omega
      | c :: d :: l, _, _ => simp
end MG

namespace K84
open PySem PySem.Spec PyProof.Rows L2 MG
abbrev sMeets : Stmt := topS 41
abbrev nMeets : List Str := ["_law_row", "_law_wishes", "_law_amount", "_law_wish"]
theorem scMeets : FnScope ["_law_row", "_law_wishes", "_law_amount", "_law_wish"] ["_law_row", "_law_wishes"] (defScope sMeets) := ⟨rfl, rfl, rfl, by decide +kernel, rfl, by decide +kernel, by decide +kernel⟩
abbrev sSmall : Stmt := topS 42
abbrev nSmall : List Str := ["_law_box_here", "_law_places_here", "_law_live", "_law_total"]
theorem scSmall : FnScope ["_law_box_here", "_law_places_here", "_law_live", "_law_total"] ["_law_box_here"] (defScope sSmall) := ⟨rfl, rfl, rfl, by decide +kernel, rfl, by decide +kernel, by decide +kernel⟩
abbrev sLaw : Stmt := topS 43
abbrev nLaw : List Str := ["_law_script", "_law_k", "_law_box_here", "_law_row", "_law_reached", "_law_wishes", "_law_one", "_law_there", "_law_told"]
theorem scLaw : FnScope ["_law_script", "_law_k", "_law_box_here", "_law_row", "_law_reached", "_law_wishes", "_law_one", "_law_there", "_law_told"] ["_law_script"] (defScope sLaw) := ⟨rfl, rfl, rfl, by decide +kernel, rfl, by decide +kernel, by decide +kernel⟩
theorem keys_ts {H : Hp} : ∀ {E : List (List Int × Int)} {bs : List Addr}, IsKeys H (E.map dE) bs → TsR H bs (E.map Prod.fst)
  | [], _, h => by
    cases h
    exact ⟨rfl, fun i t r h => nomatch h⟩
  | e :: E, _, h => by
    cases h with
    | cons h1 h2 =>
      have ih := keys_ts (E := E) h2
      have h1' : H _ = some (.tup ((kR e.1).map kV)) := h1
      rw [kR_map] at h1'
      refine ⟨by rw [List.length_cons, List.map_cons, List.length_cons, ih.1], fun i t r a c => ?_⟩
      cases i with
      | zero => cases a; cases c; exact h1'
      | succ i => exact ih.2 i t r a c
theorem seqS {K : PySem.W.Frag} {H H' : Hp} {a : Addr} {xs : List V} (e : Same H H') (h : SqL K H a xs) : SqL K H' a xs := by
  rcases h with (h | ⟨o, h⟩) | h
  · exact .inl (.inl (e a _ h))
  · exact .inl (.inr ⟨o, e a _ h⟩)
  · exact .inr h
theorem any_rowM {R : List (List Int)} {o : List Int} (h : o ∈ R) : ((R.map rowP).any fun z => PyData.eqv z (rowDt o)) = true := by
  refine List.any_eq_true.mpr ⟨rowP o, List.mem_map_of_mem h, ?_⟩
  have := eqv_rows o o
  rw [decide_eq_true rfl] at this
  exact this
theorem cnt_all {ms : List Int} (h : ∀ x ∈ ms, 1 ≤ x) : MG.cnt ms = ms.length := by
  unfold MG.cnt
  rw [List.filter_eq_self.mpr fun x hx => decide_eq_true (by have := h x hx; omega)]
def meetR (r : List Int) (ws : List (Option Int)) : Bool := ((r.zip ws).map fun z => z.2.isNone || decide (z.2 = some z.1)).all id
section
variable {P : Program} {w : World} {K : PySem.W.Frag} {mg : Str → Option Value} {base : Heap}
def spSplitS : Sp := fun vs H Q _ => ∃ (b : Addr) (total many : Int) (n : Nat), vs = [.ref b, .int total, .int many] ∧ Box H b n ∧ n ≤ 900000 ∧ 1 ≤ many ∧ many ≤ 20 ∧ many ≤ total ∧ total ≤ 10 ^ 39 ∧
  ∀ p H' (ns : List Int), H p = none → (ns.length : Int) = many → (∀ x ∈ ns, 1 ≤ x ∧ x ≤ total) → ns.sum = total → Box H' b (n + 20) → SX b H H' → H' p = some (.lst (ns.map V.int)) → Q (.ref p) H'
theorem ok_splitS {f fT : Addr} {fd fdT : FuncData} {k : Nat} (F : Fun K "_law_split" "_law_split" sSplit f fd)
    (FT : Fun K "_law_take" "_law_take" sTake fT fdT) (bT : Binds K fdT ["_law_box_here", "_law_many"] []) (gT : mg "_law_take" = some (.ref fT)) (mR : mg "range" = none) :
    FnOk P w K mg base CX0 (k + 2) f fd ["_law_box_here", "_law_total", "_law_many"] spSplitS := by
  have GT : FnOk P w K mg base CX0 (k + 1) fT fdT ["_law_box_here", "_law_many"] spTake := ok_take FT
  refine F.ok scSplit (fun vs H Q E h => ?_) (fun cdv A outer s H vs Q E hr h => ?_)
  · obtain ⟨b, total, many, n, rfl, _⟩ := h
    rfl
  · obtain ⟨b, total, many, n, rfl, hB, hn, m1, m2, m3, m4, q⟩ := h
    refine ⟨_, pss_cons (ps_par (i := 3) (j := 4) rfl scSplit.nd rfl rfl (by decide) rfl rfl (pa_cons (pe_op op_sub (pv 1) (pv 2)) (pa_cons (pe_lst pa_nil) pa_nil)) (by rfl))
      (pss_cons (ps_for PassesOwn.never rfl (pi_range1 rfl mR (pa_cons (pe_op op_sub (pv 2) pe_int) pa_nil)) (pg_name (i := 5) scSplit.nd rfl (.inl rfl))
        (pss_cons (ps_set (i := 6) scSplit.nd rfl (.inl rfl) (pe_call GT hr (by rfl) gT FT.kp bT .nil pass0 (pa_cons (pv 0) (pa_cons (pe_op op_add (pv 3) pe_int) pa_nil))))
        (pss_cons (ps_set (i := 3) scSplit.nd rfl (.inl rfl) (pe_op op_sub (pv 3) (pv 6)))
        (pss_one (ps_expr (pe_bm PySem.F.plainAttrs_list PySem.F.slot_list_append PySem.F.type_list_append mt_append (pv 4) (pa_cons (pe_op op_add pe_int (pv 6)) pa_nil)))))))
      (pss_one (ps_ret (pe_op op_cat (pv 4) (pe_lst (pa_cons (pe_op op_add pe_int (pv 3)) pa_nil)))))), ?_⟩
    refine ⟨_, rfl, _, rfl, total, many, rfl, rfl, by show 0 ≤ sizeLine; decide, fun fo nfo => ⟨_, _, rfl, ?_⟩⟩
    obtain ⟨bo, bz⟩ := hB.get
    have nbf : b ≠ fo := ne_of_none bz nfo
    refine ⟨_, rfl, many, 1, rfl, rfl, many - 1, rfl, by omega, by omega, ?_⟩
    refine for_range (lo := 0) (n := (many - 1).toNat) (fun i σ H' => ∃ y5 y6, ∃ left : Int, ∃ ns : List Int, σ = [some (.ref b), some (.int total), some (.int many), some (.int left), some (.ref fo), y5, y6] ∧ 0 ≤ left ∧ left ≤ total - many ∧ ns.length = i ∧ (∀ x ∈ ns, 1 ≤ x ∧ x ≤ total) ∧ ns.sum + left = total - many + i ∧ SX b H H' ∧ Box H' b (n + i) ∧ H' fo = some (.lst (ns.map V.int))) ?_ ?_ ?_
    · exact ⟨none, none, total - many, [], rfl, by omega, by omega, rfl, fun x hx => absurd hx List.not_mem_nil, by rw [List.sum_nil]; omega, .of_same (same_upd nfo), hB.set nbf, upd_same⟩
    · rintro i σ H' hi ⟨y5, y6, left, ns, rfl, l0, l1, hl, hx, hsm, x', hB', ef⟩
      refine ⟨_, rfl, _, rfl, left, 1, rfl, rfl, b, left + 1, n + i, rfl, hB', by omega, by omega, by omega, fun r H'' r0 r1 hB'' k'' => ?_⟩
      refine ⟨_, rfl, _, rfl, left, r, rfl, rfl, ?_⟩
      refine ⟨_, rfl, .inl ⟨rfl, _, SqL.of (by rw [k'' fo nbf.symm]; exact ef)⟩, _, rfl, 1, r, rfl, rfl, fo, _, _, rfl, rfl, (by rw [k'' fo nbf.symm]; exact ef), ?_, ?_⟩
      · rw [List.length_map, hl]
        exact small1000 (by omega)
      · refine ⟨_, _, left - r, ns ++ [1 + r], rfl, by omega, by omega, by rw [List.length_append, hl]; rfl, ?_, by rw [List.sum_append, List.sum_singleton]; omega, ((x'.trans (.of_eq k'')).set nfo), hB''.set nbf, ?_⟩
        · intro y hy
          rcases List.mem_append.mp hy with hy | hy
          · exact hx y hy
          · rw [List.mem_singleton.mp hy]; omega
        · rw [upd_same, List.map_append]; rfl
    · rintro σ H' ⟨y5, y6, left, ns, rfl, l0, l1, hl, hx, hsm, x', hB', ef⟩
      refine ⟨_, rfl, _, rfl, 1, left, rfl, rfl, by show 1 ≤ sizeLine; decide, fun l2 n2 => ?_⟩
      refine ⟨fo, l2, _, _, rfl, rfl, same_upd n2 _ _ ef, upd_same, by rw [List.length_map]; show ns.length + 1 ≤ sizeLine; rw [sizeLine_eq]; omega, fun p np => ?_⟩
      have x2 : SX b H (upd H' l2 (.lst [.int (1 + left)])) := x'.new n2
      have hB2 : Box (upd H' l2 (.lst [.int (1 + left)])) b (n + (many - 1).toNat) := hB'.new n2
      refine q p _ (ns ++ [1 + left]) (x2.free hB2 np) (by rw [List.length_append, hl]; show ((_ + 1 : Nat) : Int) = _; omega) ?_ (by rw [List.sum_append, List.sum_singleton]; omega) ((hB2.new np).le (by omega)) (x2.new np) ?_
      · intro y hy
        rcases List.mem_append.mp hy with hy | hy
        · exact hx y hy
        · rw [List.mem_singleton.mp hy]; omega
      · rw [upd_same, List.map_append]; rfl
def spMeets : Sp := fun vs H Q _ => ∃ (a c : Addr) (r : List Int) (ws : List (Option Int)), vs = [.ref a, .ref c] ∧ H a = some (.tup (r.map V.int)) ∧ H c = some (.tup (ws.map wV)) ∧ r.length = ws.length ∧ r.length ≤ 100 ∧
  ∀ H', Same H H' → Q (.bl (meetR r ws)) H'
theorem ok_meets {f : Addr} {fd : FuncData} {k : Nat} (F : Fun K "_law_meets" "_law_meets" sMeets f fd) (m_all : mg "all" = none) (m_zip : mg "zip" = none) : FnOk P w K mg base CX0 (k + 1) f fd ["_law_row", "_law_wishes"] spMeets := by
  refine F.ok scMeets (fun vs H Q E h => ?_) (fun cdv A outer s H vs Q E hr h => ?_)
  · obtain ⟨a, c, r, ws, rfl, _⟩ := h
    rfl
  · obtain ⟨a, c, r, ws, rfl, ea, ec, hl, h100, q⟩ := h
    refine ⟨_, pss_one (ps_ret (pe_callB (cr_all rfl) (by rfl) m_all (by decide +kernel) (pa_cons (pe_lc (own := [("_law_amount", 2), ("_law_wish", 3)]) (g := gTup K 2 (gCons (gName 2) (gCons (gName 3) gNil))) (tt := tYes) rfl scMeets.nd (RZ.pi_zipA (by rfl) m_zip (pa_cons (pv 0) (pa_cons (pv 1) pa_nil))) (blkOk_by (N := nMeets) (sc := defScope sMeets) (by decide +kernel)) (fun _ _ _ _ _ => pg_tup rfl (pgs_cons (pg_name (i := 2) scMeets.nd rfl (.inl rfl) (.inr rfl)) (pgs_cons (pg_name (i := 3) scMeets.nd rfl (.inl rfl) (.inr rfl)) pgs_nil))) (fun _ _ _ _ _ => pts_nil) (fun _ _ _ _ _ => (pe_or (pe_cmpR op_isN (pv 3) pe_non (nomark _)) (pe_one (pe_cmpR op_eq (pv 3) (pv 2) (nomark _)))))) pa_nil))), ?_⟩
    refine ⟨_, rfl, _, rfl, a, c, _, _, rfl, .inr ⟨SqT.of ea, SqT.of ec, fun D nD => ?_⟩⟩
    refine zipRW (i := 2) (j := 3) (r := r) (ws := ws) (fun n v => v.isNone || decide (v = some n)) (fun n v σ2 G Q gi gj hq => ?_) (by decide) (by show 2 < 4; decide) (by show 3 < 4; decide) ea ec hl (by omega) nD (fun G2 s2 hD => ?_)
    · refine ⟨_, gj, rfl, _, rfl, ?_⟩
      rw [wV_non]
      cases v with
      | none => exact iteT hq
      | some x =>
        refine iteF ⟨_, gj, _, gi, rfl, ?_⟩
        have e : decide (wV (some x) = V.int n) = decide (some x = some n) := dec_iff ⟨fun z => by rw [V.int.inj z], fun z => by rw [Option.some.inj z]; rfl⟩
        rw [e]
        exact hq
    · exact ⟨D, _, rfl, SqL.of hD, q G2 s2⟩
def spSmall : Sp := fun vs H Q _ => ∃ (b : Addr) (N : Nat), vs = [.ref b] ∧ Box H b N ∧ N ≤ 100000 ∧
  ∀ p H' (r : List Int), (∀ x ∈ r, 0 ≤ x) → r.length ≤ 4 → r.sum ≤ 7 → 3 ≤ MG.cnt r → Box H' b (N + 100) → SX b H H' → H' p = some (.tup (r.map V.int)) → Q (.ref p) H'
theorem ok_small {f fT fS fP : Addr} {fd fdT fdS fdP : FuncData} {k : Nat} (F : Fun K "_law_small" "_law_small" sSmall f fd)
    (FT : Fun K "_law_take" "_law_take" sTake fT fdT) (bT : Binds K fdT ["_law_box_here", "_law_many"] []) (gT : mg "_law_take" = some (.ref fT))
    (FS : Fun K "_law_split" "_law_split" sSplit fS fdS) (bS : Binds K fdS ["_law_box_here", "_law_total", "_law_many"] []) (gS : mg "_law_split" = some (.ref fS))
    (FP : Fun K "_law_places" "_law_places" sPlaces fP fdP) (bP : Binds K fdP ["_law_box_here", "_law_amounts", "_law_nothing"] []) (gP : mg "_law_places" = some (.ref fP)) (GP : FnOk P w K mg base CX0 (k + 2) fP fdP ["_law_box_here", "_law_amounts", "_law_nothing"] spPlaces)
    (m_range : mg "range" = none) : FnOk P w K mg base CX0 (k + 3) f fd ["_law_box_here"] spSmall := by
  have GT : FnOk P w K mg base CX0 (k + 1) fT fdT ["_law_box_here", "_law_many"] spTake := ok_take FT
  have GS : FnOk P w K mg base CX0 (k + 2) fS fdS ["_law_box_here", "_law_total", "_law_many"] spSplitS := ok_splitS FS FT bT gT m_range
  refine F.ok scSmall (fun vs H Q E h => ?_) (fun cdv A outer s H vs Q E hr h => ?_)
  · obtain ⟨b, N, rfl, _⟩ := h
    rfl
  · obtain ⟨b, N, rfl, hB, hN, want⟩ := h
    have hr2 := hr
    have hr1 := hr.mono (show k + 1 ≤ k + 2 by omega)
    refine ⟨_, pss_cons (ps_set (i := 1) scSmall.nd rfl (.inl rfl) (pe_op op_add pe_int (pe_call GT hr1 (by rfl) gT FT.kp bT .nil pass0 (pa_cons (pv 0) (pa_cons pe_int pa_nil)))))
      (pss_cons (ps_set (i := 2) scSmall.nd rfl (.inl rfl) (pe_op op_add pe_int (pe_call GT hr1 (by rfl) gT FT.kp bT .nil pass0 (pa_cons (pv 0) (pa_cons (pe_op op_sub (pv 1) pe_int) pa_nil)))))
      (pss_cons (ps_set (i := 3) scSmall.nd rfl (.inl rfl) (pe_op op_add (pv 2) (pe_call GT hr1 (by rfl) gT FT.kp bT .nil pass0 (pa_cons (pv 0) (pa_cons (pe_ifExp (pt_cmpR op_eq (pv 1) pe_int (nomark _)) pe_int (pe_op op_sub pe_int (pv 2))) pa_nil)))))
      (pss_one (ps_ret (pe_call GP hr2 (by rfl) gP FP.kp bP .nil pass0 (pa_cons (pv 0) (pa_cons (pe_call GS hr2 (by rfl) gS FS.kp bS .nil pass0 (pa_cons (pv 0) (pa_cons (pv 3) (pa_cons (pv 2) pa_nil)))) (pa_cons (pe_op op_sub (pv 1) (pv 2)) pa_nil)))))))), ?_⟩
    refine ⟨_, rfl, b, 2, N, rfl, hB, by omega, by decide, by decide, fun u1 G1 u10 u11 B1 k1 => ⟨3, u1, rfl, rfl, ?_⟩⟩
    refine ⟨_, rfl, _, rfl, _, 2, rfl, rfl, b, _, _, rfl, B1, by omega, by omega, by omega, fun u2 G2 u20 u21 B2 k2 => ⟨3, u2, rfl, rfl, ?_⟩⟩
    have x2 := (SX.of_eq k1).trans (SX.of_eq k2)
    have fin : ∀ {G : Hp} (pl live total : Int), pl = 3 ∨ pl = 4 → 3 ≤ live → live ≤ pl → live ≤ total → total ≤ 7 → SX b H G → Box G b (N + 1 + 1 + 1) →
        tRet (tCall spPlaces [] E0 (tCons (tVar 0) (tCons (tCall spSplitS [] E0 (tCons (tVar 0) (tCons (tVar 3) (tCons (tVar 2) tNil)))) (tCons (tOp (rI0 fun i j => V.int (i - j)) (tVar 1) (tVar 2)) tNil)))) { nx := fun _ H' => Q .non H', rt := Q } [some (.ref b), some (.int pl), some (.int live), some (.int total)] G := fun {G} pl live total hp h3 hl ht h7 x B => by
      refine ⟨_, rfl, _, rfl, _, rfl, _, rfl, b, total, live, _, rfl, B, by omega, by omega, by omega, by omega, by omega, fun pa G4 ms np4 ml mb msum B4 x4 e4 => ?_⟩
      refine ⟨_, rfl, _, rfl, _, _, rfl, rfl, b, pa, ms, pl - live, _, rfl, B4, by omega, .inl e4, by omega, by omega, by omega, fun p G5 r np5 pm B5 x5 ep => ?_⟩
      have rl := pm.length_eq
      rw [List.length_append, List.length_replicate] at rl
      have nr : ∀ x ∈ r, 0 ≤ x := fun x hx => by
        rcases List.mem_append.mp (pm.mem_iff.mp hx) with h | h
        · have := mb x h; omega
        · rw [List.eq_of_mem_replicate h]; omega
      have cr : MG.cnt r = ms.length := by rw [cnt_more pm, cnt_all fun x hx => (mb x hx).1]
      have sr : r.sum = total := by rw [sum_more pm, msum]
      exact want p G5 r nr (by omega) (by omega) (by omega) (B5.le (by omega)) ((x.trans x4).trans x5) ep
    have hu : u1 = 0 ∨ u1 = 1 := by omega
    rcases hu with rfl | rfl
    · refine ⟨_, rfl, _, rfl, _, rfl, rfl, _, rfl, ?_⟩
      rw [show decide (V.int (3 + 0) = V.int 3) = true by decide]
      refine iteT ⟨b, 5, _, rfl, B2, by omega, by decide, by decide, fun u3 G3 u30 u31 B3 k3 => ⟨3 + u2, u3, rfl, rfl, ?_⟩⟩
      exact fin (3 + 0) (3 + u2) (3 + u2 + u3) (by omega) (by omega) (by omega) (by omega) (by omega) (x2.trans (SX.of_eq k3)) B3
    · refine ⟨_, rfl, _, rfl, _, rfl, rfl, _, rfl, ?_⟩
      rw [show decide (V.int (3 + 1) = V.int 3) = false by decide]
      refine iteF ⟨_, rfl, 6, _, rfl, rfl, b, 6 - (3 + u2), _, rfl, B2, by omega, by omega, by omega, fun u3 G3 u30 u31 B3 k3 => ⟨3 + u2, u3, rfl, rfl, ?_⟩⟩
      exact fin (3 + 1) (3 + u2) (3 + u2 + u3) (by omega) (by omega) (by omega) (by omega) (by omega) (x2.trans (SX.of_eq k3)) B3
def spLaw (K : PySem.W.Frag) : Sp := fun vs H Q _ => ∃ (a : Addr) (ns : List Int), vs = [.ref a] ∧ SqL K H a (ns.map V.int) ∧ ns.length ≤ 63 ∧ ∀ H', Q (.bl true) H'
theorem ok_law {f fX fSm fAl fAw fMe fWi fCa : Addr} {fd fdX fdSm fdAl fdAw fdMe fdWi fdCa : FuncData} {k : Nat} (sys : SysD base) (F : Fun K "law" "law" sLaw f fd)
    (FX : Fun K "_law_box" "_law_box" sBox fX fdX) (bX : Binds K fdX ["_law_script", "_law_k"] []) (gX : mg "_law_box" = some (.ref fX)) (GX : FnOk P w K mg base CX0 (k + 1) fX fdX ["_law_script", "_law_k"] (spBox K))
    (FSm : Fun K "_law_small" "_law_small" sSmall fSm fdSm) (bSm : Binds K fdSm ["_law_box_here"] []) (gSm : mg "_law_small" = some (.ref fSm)) (GSm : FnOk P w K mg base CX0 (k + 3) fSm fdSm ["_law_box_here"] spSmall)
    (FAl : Fun K "_law_all_of" "_law_all_of" sAll fAl fdAl) (bAl : Binds K fdAl ["_law_row"] []) (gAl : mg "_law_all_of" = some (.ref fAl)) (GAl : FnOk P w K mg base CX0 (k + 3) fAl fdAl ["_law_row"] spAll)
    (FAw : Fun K "_law_all_wishes" "_law_all_wishes" sAw fAw fdAw) (bAw : Binds K fdAw ["_law_places_here", "_law_most"] []) (gAw : mg "_law_all_wishes" = some (.ref fAw)) (GAw : FnOk P w K mg base CX0 (k + 1) fAw fdAw ["_law_places_here", "_law_most"] spAw)
    (FMe : Fun K "_law_meets" "_law_meets" sMeets fMe fdMe) (bMe : Binds K fdMe ["_law_row", "_law_wishes"] []) (gMe : mg "_law_meets" = some (.ref fMe)) (GMe : FnOk P w K mg base CX0 (k + 1) fMe fdMe ["_law_row", "_law_wishes"] spMeets)
    (FWi : Fun K "wished" "wished" sWish fWi fdWi) (bWi : Binds K fdWi ["row", "wishes"] []) (gWi : mg "wished" = some (.ref fWi)) (GWi : FnOk P w K mg base CX0 (k + 8) fWi fdWi ["row", "wishes"] spWish)
    (FCa : Fun K "can_be" "can_be" sCan fCa fdCa) (bCa : Binds K fdCa ["row", "wishes"] []) (gCa : mg "can_be" = some (.ref fCa)) (GCa : FnOk P w K mg base CX0 (k + 9) fCa fdCa ["row", "wishes"] spCan)
    (m_len : mg "len" = none) (m_min : mg "min" = none) (m_sum : mg "sum" = none) (m_range : mg "range" = none) (m_list : mg "list" = none) (m_repr : mg "repr" = none) : FnG P w K mg base (k + 10) f fd ["_law_script"] (spLaw K) := by
  refine okG F scLaw (fun vs H Q E h => ?_) (fun cdv A outer s H vs Q E gd hr h => ?_)
  · obtain ⟨a, ns, rfl, _⟩ := h
    rfl
  · obtain ⟨a, ns, rfl, hS, hlen, q⟩ := h
    have hr9 := hr
    have hr8 := hr.mono (show k + 8 ≤ k + 9 by omega)
    have hr3 := hr.mono (show k + 3 ≤ k + 9 by omega)
    have hr1 := hr.mono (show k + 1 ≤ k + 9 by omega)
    have cr : ∀ {X : Cx}, X = (cxOf CX0 P w K mg base nLaw "law" (defScope sLaw) f cdv A outer s H E).nox →
        CallR X (.builtin "repr") (fun xs H Q => ∃ x d, xs = [x] ∧ Dd H x d ∧ d.showable = true ∧ d.depth ≤ 60 ∧ d.shown.length ≤ sizeLine ∧ Q (.str d.shown) H) := by
      rintro X rfl
      exact call_repr gd (by have := hr.un; show (A.deeper _).units + 100 < cLine; omega) sys
    have R := cr rfl
    have bsh : ∀ b : Bool, (PyData.bool b).shown.length ≤ sizeLine := fun b => Nat.le_trans (MG.Sh.bool b).2.2 (by rw [sizeLine_eq]; decide)
    refine ⟨_, pss_cons (ps_for PassesOwn.never rfl (pi_range1 (by rfl) m_range (pa_cons (pe_op op_add pe_int (pe_callB (call_min2 rfl) (by rfl) m_min (by decide +kernel) (pa_cons pe_int (pa_cons (pe_callB call_len_seq (by rfl) m_len PySem.boot_len (pa_cons (pv 0) pa_nil)) pa_nil)))) pa_nil)) (pg_name (i := 1) scLaw.nd rfl (.inl rfl)) (pss_cons (ps_set (i := 2) scLaw.nd rfl (.inl rfl) (pe_call GX hr1 (by rfl) gX FX.kp bX .nil pass0 (pa_cons (pv 0) (pa_cons (pv 1) pa_nil))))
      (pss_cons (ps_set (i := 3) scLaw.nd rfl (.inl rfl) (pe_call GSm hr3 (by rfl) gSm FSm.kp bSm .nil pass0 (pa_cons (pv 2) pa_nil)))
      (pss_cons (ps_set (i := 4) scLaw.nd rfl (.inl rfl) (pe_callTy (call_list_dT rfl) (by rfl) m_list (by decide +kernel) (pa_cons (pe_call GAl hr3 (by rfl) gAl FAl.kp bAl .nil pass0 (pa_cons (pv 3) pa_nil)) pa_nil)))
      (pss_one (ps_for PassesOwn.never rfl (pi_list (pe_call GAw hr1 (by rfl) gAw FAw.kp bAw .nil pass0 (pa_cons (pe_callB call_len_seq (by rfl) m_len PySem.boot_len (pa_cons (pv 3) pa_nil)) (pa_cons (pe_op op_add (pe_callB (sumT rfl) (by rfl) m_sum (by decide +kernel) (pa_cons (pv 3) pa_nil)) pe_int) pa_nil)))) (pg_name (i := 5) scLaw.nd rfl (.inr rfl)) (pss_cons (ps_setLc (i := 7) (own := [("_law_one", 6)]) (g := gName 6) (tt := tB (tCall spMeets [] E0 (tCons (tVar 6) (tCons (tVar 5) tNil)))) rfl scLaw.nd rfl rfl (sw_true rfl rfl rfl (by decide +kernel)) (pi_list (pv 4)) (blkOk_by (N := nLaw) (sc := defScope sLaw) (by decide +kernel)) (fun _ _ _ _ _ => pg_name (i := 6) scLaw.nd rfl (Or.inl rfl)) (fun _ _ _ _ _ => pts_one (pt_val (pe_call GMe hr1 (by rfl) gMe FMe.kp bMe .nil pass0 (pa_cons (pv 6) (pa_cons (pv 5) pa_nil))))) (fun _ _ _ _ _ => pv 6))
      (pss_mid (ps_set (i := 8) scLaw.nd rfl (.inl rfl) (pe_call GWi hr8 (by rfl) gWi FWi.kp bWi .nil pass0 (pa_cons (pv 3) (pa_cons (pv 5) pa_nil))))
      (pss_cons (ps_if (PW.pt (pw_or (pt_cmpR op_ne (pe_callB R (by rfl) m_repr (by decide +kernel) (pa_cons (pe_call GCa hr9 (by rfl) gCa FCa.kp bCa .nil pass0 (pa_cons (pv 3) (pa_cons (pv 5) pa_nil))) pa_nil)) (pe_callB R (by rfl) m_repr (by decide +kernel) (pa_cons (pe_cmpR (op_neD hr.units) (pv 7) (pe_lst pa_nil) (nomark _)) pa_nil)) (nomark _)) (pw_or1 (pt_cmpR op_ne (pe_cmpR op_isN (pv 8) pe_non (nomark _)) (pe_cmpR (op_eqD hr.units) (pv 7) (pe_lst pa_nil) (nomark _)) (nomark _))))) (pss_one (ps_ret pe_bl)) pss_nil)
      (pss_one (ps_if (PW.pt (pw_and (pt_cmpR op_notN (pv 8) pe_non (nomark _)) (pw_and1 (pt_cmpR (op_notInD (units65 hr)) (pv 8) (pv 7) (by rfl))))) (pss_one (ps_ret pe_bl)) pss_nil)))))))))))
      (pss_one (ps_ret pe_bl)), ?_⟩
    refine ⟨.ref a, rfl, a, _, rfl, .inl hS, 1, _, rfl, 1, _, rfl, rfl, _, rfl, ?_, ?_, ?_⟩
    · rw [List.length_map]; repeat' split <;> omega
    · rw [List.length_map]; repeat' split <;> omega
    refine for_range (lo := 0) (n := _) (fun _ σ H' => ∃ y1 y2 y3 y4 y5 y6 y7 y8, σ = [some (.ref a), y1, y2, y3, y4, y5, y6, y7, y8] ∧ Same H H') ⟨_, _, _, _, _, _, _, _, rfl, Same.refl H⟩ ?_ ?_
    rotate_left
    · rintro σ H' ⟨y1, y2, y3, y4, y5, y6, y7, y8, rfl, _⟩
      exact q H'
    rintro j σ G0 hj ⟨y1, y2, y3, y4, y5, y6, y7, y8, rfl, s0⟩
    have hj4 : j < 5 := by
      refine Nat.lt_of_lt_of_le hj ?_
      rw [List.length_map]; repeat' split <;> omega
    refine ⟨.ref a, rfl, _, rfl, a, ns, 0 + (j : Int), rfl, seqS s0 hS, by omega, by omega, fun b H1 nb s1 hB k1 => ?_⟩
    have keep : ∀ {G : Hp}, SX b H1 G → Same H G := fun x c o hc => x c o (ne_of_none (s0 _ _ hc) nb) (s1 _ _ (s0 _ _ hc))
    refine ⟨_, rfl, b, 0, rfl, hB, by omega, fun p H2 r nr lr sr c3 hB2 x2 ep => ?_⟩
    have sH2 := keep x2
    have c4 : MG.cnt r ≤ 4 := Nat.le_trans (List.length_filter_le _ _) lr
    have lr3 : 3 ≤ r.length := Nat.le_trans c3 (List.length_filter_le _ _)
    refine ⟨_, rfl, p, r, rfl, ep, nr, by omega, by omega, fun D H3 E nD s3 eD hE hE6 nd => ?_⟩
    refine ⟨D, _, rfl, .inl eD, fun L bs nL keys => ?_⟩
    have tb := (keys_ts keys).mono (H' := upd H3 L (.lst (bs.map V.ref))) fun c xs h => same_upd nL _ _ h
    have s4 : Same H2 (upd H3 L (.lst (bs.map V.ref))) := s3.trans (same_upd nL)
    have eL : upd H3 L (.lst (bs.map V.ref)) L = some (.lst (bs.map V.ref)) := upd_same
    generalize upd H3 L (.lst (bs.map V.ref)) = H4 at tb s4 eL ⊢
    have ep4 := s4 _ _ ep
    have nn4 := cnt_hold r
    have h3 : 3 ≤ (hold r r.length).length := by omega
    have rp : ∃ n ∈ r, 0 < n := by
      have hc : 0 < cnt r := by omega
      unfold MG.cnt at hc
      obtain ⟨x, hx⟩ := List.exists_mem_of_length_pos hc
      obtain ⟨h1, h2⟩ := List.mem_filter.mp hx
      exact ⟨x, h1, of_decide_eq_true h2⟩
    have s0r : 0 < r.sum := by
      obtain ⟨n, hn, h0⟩ := rp
      have := mem_le_sumG nr n hn
      omega
    have hgl : 0 < gl r := by
      obtain ⟨n, hn, h0⟩ := rp
      exact gl_pos hn h0
    have e250 : (7 : Int) < 2 ^ 250 := by decide
    have row : ∀ {G : Hp}, G p = some (.tup (r.map V.int)) → Row G p r := fun e => ⟨e, fun n hn => ⟨nr n hn, by have := mem_le_sumG nr n hn; omega⟩, by omega, rp⟩
    refine ⟨_, rfl, p, _, rfl, .inr (SqT.of ep4), _, rfl, p, r, rfl, SqT.of ep4, _, 1, rfl, rfl, (r.map V.int).length, (r.sum + 1).toNat, ?_, by rw [List.length_map]; exact lr, by omega, fun la H5 ws s5 ela hWs => ?_⟩
    · rw [show (((r.sum + 1).toNat : Nat) : Int) = r.sum + 1 by omega]
      rfl
    rw [List.length_map] at hWs
    have s45 := s4.trans s5
    have ep5 := s45 _ _ ep
    have eL5 := s5 _ _ eL
    have tb5 := tb.mono (H' := H5) fun c xs h => s5 _ _ h
    refine ⟨la, rfl, ⟨_, SqL.of ela⟩, ?_⟩
    refine for_list (K := K) (a := la) (xs := ws.map V.ref) (fun m σ G => ∃ y5 y6 y7 y8, σ = [some (.ref a), some (.int (0 + (j : Int))), some (.ref b), some (.ref p), some (.ref L), y5, y6, y7, y8] ∧ Same H5 G) ⟨_, _, _, _, rfl, .refl H5⟩ ?_ ?_ ?_
    · rintro m σ G _ ⟨_, _, _, _, _, sG⟩
      exact SqL.of (sG _ _ ela)
    rotate_left
    · rintro σ G ⟨y5, y6, y7, y8, rfl, sG⟩
      exact ⟨_, _, _, _, _, _, _, _, rfl, sH2.trans (s45.trans sG)⟩
    rintro m x σ G hx ⟨y5, y6, y7, y8, rfl, sG⟩
    obtain ⟨u, hu, rfl⟩ := List.mem_map.mp (List.mem_of_getElem? hx)
    obtain ⟨wl, ewl, wll, w0⟩ := hWs u hu
    have ew := sG _ _ ewl
    have tbG := tb5.mono (H' := G) fun c xs h => sG _ _ h
    have epG := sG _ _ ep5
    refine ⟨_, rfl, L, rfl, ⟨_, SqL.of (sG _ _ eL5)⟩, fun D2 nD2 => ?_⟩
    have hbl : bs.length ≤ 13 ^ 6 := by rw [tb.1, List.length_map]; exact hE6
    refine lc_list (K := K) (a := L) (xs := bs.map V.ref) (fun c G' => Same G G' ∧ ∃ ts, G' D2 = some (.lst (ts.map V.ref)) ∧ TsR G' ts (((E.map Prod.fst).take c).filter fun o => meetR o wl) ∧ ts.length ≤ c) ⟨same_upd nD2, [], upd_same, ⟨rfl, fun i t r h => nomatch h⟩, Nat.le_refl _⟩ ?_ ?_ ?_
    · rintro c G' _ ⟨sg, _⟩
      exact SqL.of (sg _ _ (sG _ _ eL5))
    · rintro c x G' hx ⟨sg, ts, hD, hts, htl⟩
      rw [List.getElem?_map] at hx
      obtain ⟨v, hv', rfl⟩ := Option.map_eq_some_iff.mp hx
      have hcl : c < bs.length := (List.getElem?_eq_some_iff.mp hv').1
      have hcE : (E.map Prod.fst)[c]? = some ((E.map Prod.fst)[c]'(by rw [← tb.1]; exact hcl)) := List.getElem?_eq_getElem _
      generalize (E.map Prod.fst)[c]'(by rw [← tb.1]; exact hcl) = o at hcE
      have eo := tbG.2 c v o hv' hcE
      have ko := ((hE o).mp (List.mem_of_getElem? hcE)).keeps nr
      refine ⟨rfl, _, rfl, _, rfl, v, u, o, wl, rfl, sg _ _ eo, sg _ _ ew, by omega, by omega, fun G6 s6 => ⟨_, rfl, ?_⟩⟩
      have sg6 := sg.trans s6
      have hD6 := s6 _ _ hD
      have keepT : ∀ ys : List V, KT G6 (upd G6 D2 (.lst ys)) := fun ys => MG.KT.lst hD6
      have keepS : ∀ ys : List V, Same G (upd G6 D2 (.lst ys)) := fun ys c v hc => by
        rw [upd_ne (ne_of_none hc nD2)]
        exact sg6 c v hc
      have hts6 := hts.mono (H' := G6) fun c xs h => s6 _ _ h
      cases hm : meetR o wl with
      | true =>
        refine iteT ⟨_, rfl, _, hD6, by rw [List.length_map, sizeLine_eq]; omega, keepS _, ts ++ [v], by rw [upd_same, List.map_append]; rfl, ?_, by rw [List.length_append, List.length_singleton]; omega⟩
        rw [MG.take_snoc hcE, List.filter_append, List.filter_cons, if_pos hm, List.filter_nil]
        exact (hts6.snoc (sg6 _ _ eo)).mono fun c xs h => keepT _ _ _ h
      | false =>
        refine iteF ⟨sg6, ts, hD6, ?_, by omega⟩
        rw [MG.take_snoc hcE, List.filter_append, List.filter_cons, if_neg (by rw [hm]; decide), List.filter_nil, List.append_nil]
        exact hts6
    rintro G9 ⟨sg, ts, hD, hts, htl⟩
    rw [List.length_map, tb.1, List.take_length] at hts
    have s59 := sG.trans sg
    have ep9 := s59 _ _ ep5
    have ew9 := sg _ _ ew
    generalize hT : ((E.map Prod.fst).filter fun o => meetR o wl) = T at hts
    have inT : ∀ o, o ∈ T ↔ Re r o ∧ Meets wl o := fun o => by
      rw [← hT, List.mem_filter, hE o]
      constructor
      · rintro ⟨h1, h2⟩
        exact ⟨h1, (meets_all (by have := (h1.keeps nr).1; omega)).mp h2⟩
      · rintro ⟨h1, h2⟩
        exact ⟨h1, (meets_all (by have := (h1.keeps nr).1; omega)).mpr h2⟩
    have t1 : ∀ o ∈ T, ∃ o', wishF r wl = some o' := fun o ho => by
      obtain ⟨re, me⟩ := (inT o).mp ho
      have ko := re.keeps nr
      have hb := re_brk nr re
      rw [brkF_three h3] at hb
      exact wish_some wll nr hgl me ko.2.2 hb s0r ko.2.1
    have t2 : ∀ o, wishF r wl = some o → o ∈ T := fun o ho => by
      obtain ⟨h1, h2⟩ := wish_told ho
      have F := fill_form h1
      have no := F.nn w0
      have lo : o.length = r.length := by rw [F.meets.1, wll]
      rw [← brkF_three h3] at h2
      exact (inT o).mpr ⟨come4 nr no lo.symm c3 c4 (by omega) h2, F.meets⟩
    have eqT : PyData.eqv (.list (T.map rowP)) (.list []) = !(wishF r wl).isSome := by
      cases hTe : T with
      | nil =>
        cases hw : wishF r wl with
        | none => decide
        | some o => rw [hTe] at t2; exact absurd (t2 o hw) List.not_mem_nil
      | cons o T' =>
        obtain ⟨o', ho'⟩ := t1 o (by rw [hTe]; exact List.mem_cons_self)
        rw [ho']
        rfl
    refine ⟨fun σ G => ∃ (y6 : Option V) (told : V), σ = [some (.ref a), some (.int (0 + (j : Int))), some (.ref b), some (.ref p), some (.ref L), some (.ref u), y6, some (.ref D2), some told] ∧ Same G9 G ∧ ((wishF r wl = none ∧ told = .non) ∨ ∃ o q, wishF r wl = some o ∧ told = .ref q ∧ G q = some (.tup (o.map V.int))), ?_, ?_⟩
    · exact ⟨_, rfl, _, rfl, p, u, r, wl, rfl, row ep9, ew9, wll, w0, by omega, h3, fun hn G10 s10 => ⟨_, _, rfl, s10, .inl ⟨hn, rfl⟩⟩, fun o G10 q' ho s10 eq => ⟨_, _, rfl, s10, .inr ⟨o, q', ho, rfl, eq⟩⟩⟩
    rintro σ G10 ⟨y6', told, rfl, s10, hy⟩
    refine ⟨_, rfl, _, rfl, p, u, r, wl, rfl, row (s10 _ _ ep9), s10 _ _ ew9, wll, w0, by omega, h3, fun G11 s11 => ?_⟩
    have s911 := s10.trans s11
    have dpT : ∀ {G : Hp}, Same G9 G → Dp K G (.ref D2) (.list (T.map rowP)) := fun s => .lst (SqL.of (s _ _ hD)) (dp_rows (hts.mono fun c xs h => s _ _ h))
    refine ⟨_, .bool _, rfl, .bl _, rfl, Nat.zero_le _, bsh _, _, rfl, by show 0 ≤ sizeLine; decide, fun e ne => ?_⟩
    have s912 := s911.trans (same_upd ne (o := HO.lst []))
    have k12 := s11.trans (same_upd ne (o := HO.lst []))
    refine ⟨.list (T.map rowP), .list [], dpT s912, .lst (SqL.of upd_same) .nil, shaped_rows _, rfl, ?_⟩
    refine ⟨_, .bool _, rfl, .bl _, rfl, Nat.zero_le _, bsh _, rfl, _, rfl, iteNS (by rw [eqT, Bool.not_not]) ?_⟩
    generalize upd G11 e (HO.lst []) = G12 at s912 k12 ⊢
    refine ⟨_, rfl, rfl, _, rfl, by show 0 ≤ sizeLine; decide, fun e2 ne2 => ?_⟩
    have s913 := s912.trans (same_upd ne2 (o := HO.lst []))
    have k13 := k12.trans (same_upd ne2 (o := HO.lst []))
    refine ⟨.list (T.map rowP), .list [], dpT s913, .lst (SqL.of upd_same) .nil, shaped_rows _, rfl, ?_⟩
    rw [eqT]
    generalize upd G12 e2 (HO.lst []) = G13 at s913 k13 ⊢
    have sF := sG.trans (sg.trans s913)
    rcases hy with ⟨hn, rfl⟩ | ⟨o, q', ho, rfl, eq⟩
    · rw [hn]
      refine ⟨rfl, _, rfl, iteNS rfl ?_⟩
      refine ⟨_, rfl, rfl, _, rfl, iteF (iteF ?_)⟩
      exact ⟨_, _, _, _, rfl, sF⟩
    · rw [ho]
      refine ⟨rfl, _, rfl, iteNS rfl ?_⟩
      have eq13 := k13 _ _ eq
      refine ⟨_, rfl, rfl, _, rfl, iteT ⟨_, rfl, _, rfl, rowDt o, _, .tup (SqT.of eq13) (dpIntsG o), dpT s913, shapedT_ints o, shaped_rows _, ?_⟩⟩
      rw [any_rowM (t2 o ho)]
      refine ⟨_, rfl, iteF ?_⟩
      exact ⟨_, _, _, _, rfl, sF⟩
end
end K84

namespace K84
open PySem PySem.Spec PyProof.Rows L2 MG
theorem all_mk {l : PySem.W.OpenLaw} {w : World} {K : PySem.W.Frag} {h : Heap} {mg : Str → Option Value} {fa : Addr} (X : K.In h) (G : h.Ns mainGlobals mg) (hfa : mg "law" = some (.ref fa))
    {fBox : Addr} {odBox anBox : Option Addr} {slBox : Array (Option Value)} {ocBox kVBox dcBox pmBox cdBox ctBox : Value}
    (aBox : PySem.W.nsIn K mainGlobals "_law_box" = some (some (.ref fBox))) (lBox : K.lookup fBox = some ⟨ocBox, odBox, .func (PySem.W.fnOf "_law_box" "_law_box" (defArgs sBox) (defBody sBox) (defScope sBox) .none kVBox dcBox pmBox anBox cdBox ctBox), slBox⟩) (cBox : PySem.W.codeIn K cdBox "_law_box" = true) (kBox : PySem.W.keepIn K (.ref fBox) = true)
    {fTake : Addr} {odTake anTake : Option Addr} {slTake : Array (Option Value)} {ocTake kVTake dcTake pmTake cdTake ctTake : Value}
    (aTake : PySem.W.nsIn K mainGlobals "_law_take" = some (some (.ref fTake))) (lTake : K.lookup fTake = some ⟨ocTake, odTake, .func (PySem.W.fnOf "_law_take" "_law_take" (defArgs sTake) (defBody sTake) (defScope sTake) .none kVTake dcTake pmTake anTake cdTake ctTake), slTake⟩) (cTake : PySem.W.codeIn K cdTake "_law_take" = true) (kTake : PySem.W.keepIn K (.ref fTake) = true)
    {fSplit : Addr} {odSplit anSplit : Option Addr} {slSplit : Array (Option Value)} {ocSplit kVSplit dcSplit pmSplit cdSplit ctSplit : Value}
    (aSplit : PySem.W.nsIn K mainGlobals "_law_split" = some (some (.ref fSplit))) (lSplit : K.lookup fSplit = some ⟨ocSplit, odSplit, .func (PySem.W.fnOf "_law_split" "_law_split" (defArgs sSplit) (defBody sSplit) (defScope sSplit) .none kVSplit dcSplit pmSplit anSplit cdSplit ctSplit), slSplit⟩) (cSplit : PySem.W.codeIn K cdSplit "_law_split" = true) (kSplit : PySem.W.keepIn K (.ref fSplit) = true)
    {fPlaces : Addr} {odPlaces anPlaces : Option Addr} {slPlaces : Array (Option Value)} {ocPlaces kVPlaces dcPlaces pmPlaces cdPlaces ctPlaces : Value}
    (aPlaces : PySem.W.nsIn K mainGlobals "_law_places" = some (some (.ref fPlaces))) (lPlaces : K.lookup fPlaces = some ⟨ocPlaces, odPlaces, .func (PySem.W.fnOf "_law_places" "_law_places" (defArgs sPlaces) (defBody sPlaces) (defScope sPlaces) .none kVPlaces dcPlaces pmPlaces anPlaces cdPlaces ctPlaces), slPlaces⟩) (cPlaces : PySem.W.codeIn K cdPlaces "_law_places" = true) (kPlaces : PySem.W.keepIn K (.ref fPlaces) = true)
    {fSmall : Addr} {odSmall anSmall : Option Addr} {slSmall : Array (Option Value)} {ocSmall kVSmall dcSmall pmSmall cdSmall ctSmall : Value}
    (aSmall : PySem.W.nsIn K mainGlobals "_law_small" = some (some (.ref fSmall))) (lSmall : K.lookup fSmall = some ⟨ocSmall, odSmall, .func (PySem.W.fnOf "_law_small" "_law_small" (defArgs sSmall) (defBody sSmall) (defScope sSmall) .none kVSmall dcSmall pmSmall anSmall cdSmall ctSmall), slSmall⟩) (cSmall : PySem.W.codeIn K cdSmall "_law_small" = true) (kSmall : PySem.W.keepIn K (.ref fSmall) = true)
    {fDeed : Addr} {odDeed anDeed : Option Addr} {slDeed : Array (Option Value)} {ocDeed kVDeed dcDeed pmDeed cdDeed ctDeed : Value}
    (aDeed : PySem.W.nsIn K mainGlobals "_law_deed" = some (some (.ref fDeed))) (lDeed : K.lookup fDeed = some ⟨ocDeed, odDeed, .func (PySem.W.fnOf "_law_deed" "_law_deed" (defArgs sDeed) (defBody sDeed) (defScope sDeed) .none kVDeed dcDeed pmDeed anDeed cdDeed ctDeed), slDeed⟩) (cDeed : PySem.W.codeIn K cdDeed "_law_deed" = true) (kDeed : PySem.W.keepIn K (.ref fDeed) = true)
    {fNext : Addr} {odNext anNext : Option Addr} {slNext : Array (Option Value)} {ocNext kVNext dcNext pmNext cdNext ctNext : Value}
    (aNext : PySem.W.nsIn K mainGlobals "_law_next" = some (some (.ref fNext))) (lNext : K.lookup fNext = some ⟨ocNext, odNext, .func (PySem.W.fnOf "_law_next" "_law_next" (defArgs sNext) (defBody sNext) (defScope sNext) .none kVNext dcNext pmNext anNext cdNext ctNext), slNext⟩) (cNext : PySem.W.codeIn K cdNext "_law_next" = true) (kNext : PySem.W.keepIn K (.ref fNext) = true)
    {fAll : Addr} {odAll anAll : Option Addr} {slAll : Array (Option Value)} {ocAll kVAll dcAll pmAll cdAll ctAll : Value}
    (aAll : PySem.W.nsIn K mainGlobals "_law_all_of" = some (some (.ref fAll))) (lAll : K.lookup fAll = some ⟨ocAll, odAll, .func (PySem.W.fnOf "_law_all_of" "_law_all_of" (defArgs sAll) (defBody sAll) (defScope sAll) .none kVAll dcAll pmAll anAll cdAll ctAll), slAll⟩) (cAll : PySem.W.codeIn K cdAll "_law_all_of" = true) (kAll : PySem.W.keepIn K (.ref fAll) = true)
    {fAw : Addr} {odAw anAw : Option Addr} {slAw : Array (Option Value)} {ocAw kVAw dcAw pmAw cdAw ctAw : Value}
    (aAw : PySem.W.nsIn K mainGlobals "_law_all_wishes" = some (some (.ref fAw))) (lAw : K.lookup fAw = some ⟨ocAw, odAw, .func (PySem.W.fnOf "_law_all_wishes" "_law_all_wishes" (defArgs sAw) (defBody sAw) (defScope sAw) .none kVAw dcAw pmAw anAw cdAw ctAw), slAw⟩) (cAw : PySem.W.codeIn K cdAw "_law_all_wishes" = true) (kAw : PySem.W.keepIn K (.ref fAw) = true)
    {fMeets : Addr} {odMeets anMeets : Option Addr} {slMeets : Array (Option Value)} {ocMeets kVMeets dcMeets pmMeets cdMeets ctMeets : Value}
    (aMeets : PySem.W.nsIn K mainGlobals "_law_meets" = some (some (.ref fMeets))) (lMeets : K.lookup fMeets = some ⟨ocMeets, odMeets, .func (PySem.W.fnOf "_law_meets" "_law_meets" (defArgs sMeets) (defBody sMeets) (defScope sMeets) .none kVMeets dcMeets pmMeets anMeets cdMeets ctMeets), slMeets⟩) (cMeets : PySem.W.codeIn K cdMeets "_law_meets" = true) (kMeets : PySem.W.keepIn K (.ref fMeets) = true)
    {fHolders : Addr} {odHolders anHolders : Option Addr} {slHolders : Array (Option Value)} {ocHolders kVHolders dcHolders pmHolders cdHolders ctHolders : Value}
    (aHolders : PySem.W.nsIn K mainGlobals "holders" = some (some (.ref fHolders))) (lHolders : K.lookup fHolders = some ⟨ocHolders, odHolders, .func (PySem.W.fnOf "holders" "holders" (defArgs sHolders) (defBody sHolders) (defScope sHolders) .none kVHolders dcHolders pmHolders anHolders cdHolders ctHolders), slHolders⟩) (cHolders : PySem.W.codeIn K cdHolders "holders" = true) (kHolders : PySem.W.keepIn K (.ref fHolders) = true)
    {fRef : Addr} {odRef anRef : Option Addr} {slRef : Array (Option Value)} {ocRef kVRef dcRef pmRef cdRef ctRef : Value}
    (aRef : PySem.W.nsIn K mainGlobals "refuse_too_few" = some (some (.ref fRef))) (lRef : K.lookup fRef = some ⟨ocRef, odRef, .func (PySem.W.fnOf "refuse_too_few" "refuse_too_few" (defArgs sRef) (defBody sRef) (defScope sRef) .none kVRef dcRef pmRef anRef cdRef ctRef), slRef⟩) (cRef : PySem.W.codeIn K cdRef "refuse_too_few" = true) (kRef : PySem.W.keepIn K (.ref fRef) = true)
    {fFree : Addr} {odFree anFree : Option Addr} {slFree : Array (Option Value)} {ocFree kVFree dcFree pmFree cdFree ctFree : Value}
    (aFree : PySem.W.nsIn K mainGlobals "is_free" = some (some (.ref fFree))) (lFree : K.lookup fFree = some ⟨ocFree, odFree, .func (PySem.W.fnOf "is_free" "is_free" (defArgs sFree) (defBody sFree) (defScope sFree) .none kVFree dcFree pmFree anFree cdFree ctFree), slFree⟩) (cFree : PySem.W.codeIn K cdFree "is_free" = true) (kFree : PySem.W.keepIn K (.ref fFree) = true)
    {fCommon : Addr} {odCommon anCommon : Option Addr} {slCommon : Array (Option Value)} {ocCommon kVCommon dcCommon pmCommon cdCommon ctCommon : Value}
    (aCommon : PySem.W.nsIn K mainGlobals "common_part" = some (some (.ref fCommon))) (lCommon : K.lookup fCommon = some ⟨ocCommon, odCommon, .func (PySem.W.fnOf "common_part" "common_part" (defArgs sCommon) (defBody sCommon) (defScope sCommon) .none kVCommon dcCommon pmCommon anCommon cdCommon ctCommon), slCommon⟩) (cCommon : PySem.W.codeIn K cdCommon "common_part" = true) (kCommon : PySem.W.keepIn K (.ref fCommon) = true)
    {fUnit : Addr} {odUnit anUnit : Option Addr} {slUnit : Array (Option Value)} {ocUnit kVUnit dcUnit pmUnit cdUnit ctUnit : Value}
    (aUnit : PySem.W.nsIn K mainGlobals "unit" = some (some (.ref fUnit))) (lUnit : K.lookup fUnit = some ⟨ocUnit, odUnit, .func (PySem.W.fnOf "unit" "unit" (defArgs sUnit) (defBody sUnit) (defScope sUnit) .none kVUnit dcUnit pmUnit anUnit cdUnit ctUnit), slUnit⟩) (cUnit : PySem.W.codeIn K cdUnit "unit" = true) (kUnit : PySem.W.keepIn K (.ref fUnit) = true)
    {fFill : Addr} {odFill anFill : Option Addr} {slFill : Array (Option Value)} {ocFill kVFill dcFill pmFill cdFill ctFill : Value}
    (aFill : PySem.W.nsIn K mainGlobals "filled" = some (some (.ref fFill))) (lFill : K.lookup fFill = some ⟨ocFill, odFill, .func (PySem.W.fnOf "filled" "filled" (defArgs sFill) (defBody sFill) (defScope sFill) .none kVFill dcFill pmFill anFill cdFill ctFill), slFill⟩) (cFill : PySem.W.codeIn K cdFill "filled" = true) (kFill : PySem.W.keepIn K (.ref fFill) = true)
    {fTwosIn : Addr} {odTwosIn anTwosIn : Option Addr} {slTwosIn : Array (Option Value)} {ocTwosIn kVTwosIn dcTwosIn pmTwosIn cdTwosIn ctTwosIn : Value}
    (aTwosIn : PySem.W.nsIn K mainGlobals "twos_in" = some (some (.ref fTwosIn))) (lTwosIn : K.lookup fTwosIn = some ⟨ocTwosIn, odTwosIn, .func (PySem.W.fnOf "twos_in" "twos_in" (defArgs sTwosIn) (defBody sTwosIn) (defScope sTwosIn) .none kVTwosIn dcTwosIn pmTwosIn anTwosIn cdTwosIn ctTwosIn), slTwosIn⟩) (cTwosIn : PySem.W.codeIn K cdTwosIn "twos_in" = true) (kTwosIn : PySem.W.keepIn K (.ref fTwosIn) = true)
    {fTwos : Addr} {odTwos anTwos : Option Addr} {slTwos : Array (Option Value)} {ocTwos kVTwos dcTwos pmTwos cdTwos ctTwos : Value}
    (aTwos : PySem.W.nsIn K mainGlobals "twos" = some (some (.ref fTwos))) (lTwos : K.lookup fTwos = some ⟨ocTwos, odTwos, .func (PySem.W.fnOf "twos" "twos" (defArgs sTwos) (defBody sTwos) (defScope sTwos) .none kVTwos dcTwos pmTwos anTwos cdTwos ctTwos), slTwos⟩) (cTwos : PySem.W.codeIn K cdTwos "twos" = true) (kTwos : PySem.W.keepIn K (.ref fTwos) = true)
    {fHfn : Addr} {odHfn anHfn : Option Addr} {slHfn : Array (Option Value)} {ocHfn kVHfn dcHfn pmHfn cdHfn ctHfn : Value}
    (aHfn : PySem.W.nsIn K mainGlobals "has_from_nothing" = some (some (.ref fHfn))) (lHfn : K.lookup fHfn = some ⟨ocHfn, odHfn, .func (PySem.W.fnOf "has_from_nothing" "has_from_nothing" (defArgs sHfn) (defBody sHfn) (defScope sHfn) .none kVHfn dcHfn pmHfn anHfn cdHfn ctHfn), slHfn⟩) (cHfn : PySem.W.codeIn K cdHfn "has_from_nothing" = true) (kHfn : PySem.W.keepIn K (.ref fHfn) = true)
    {fOddPart : Addr} {odOddPart anOddPart : Option Addr} {slOddPart : Array (Option Value)} {ocOddPart kVOddPart dcOddPart pmOddPart cdOddPart ctOddPart : Value}
    (aOddPart : PySem.W.nsIn K mainGlobals "odd_part" = some (some (.ref fOddPart))) (lOddPart : K.lookup fOddPart = some ⟨ocOddPart, odOddPart, .func (PySem.W.fnOf "odd_part" "odd_part" (defArgs sOddPart) (defBody sOddPart) (defScope sOddPart) .none kVOddPart dcOddPart pmOddPart anOddPart cdOddPart ctOddPart), slOddPart⟩) (cOddPart : PySem.W.codeIn K cdOddPart "odd_part" = true) (kOddPart : PySem.W.keepIn K (.ref fOddPart) = true)
    {fMeasure : Addr} {odMeasure anMeasure : Option Addr} {slMeasure : Array (Option Value)} {ocMeasure kVMeasure dcMeasure pmMeasure cdMeasure ctMeasure : Value}
    (aMeasure : PySem.W.nsIn K mainGlobals "measure" = some (some (.ref fMeasure))) (lMeasure : K.lookup fMeasure = some ⟨ocMeasure, odMeasure, .func (PySem.W.fnOf "measure" "measure" (defArgs sMeasure) (defBody sMeasure) (defScope sMeasure) .none kVMeasure dcMeasure pmMeasure anMeasure cdMeasure ctMeasure), slMeasure⟩) (cMeasure : PySem.W.codeIn K cdMeasure "measure" = true) (kMeasure : PySem.W.keepIn K (.ref fMeasure) = true)
    {fOddOnes : Addr} {odOddOnes anOddOnes : Option Addr} {slOddOnes : Array (Option Value)} {ocOddOnes kVOddOnes dcOddOnes pmOddOnes cdOddOnes ctOddOnes : Value}
    (aOddOnes : PySem.W.nsIn K mainGlobals "odd_ones" = some (some (.ref fOddOnes))) (lOddOnes : K.lookup fOddOnes = some ⟨ocOddOnes, odOddOnes, .func (PySem.W.fnOf "odd_ones" "odd_ones" (defArgs sOddOnes) (defBody sOddOnes) (defScope sOddOnes) .none kVOddOnes dcOddOnes pmOddOnes anOddOnes cdOddOnes ctOddOnes), slOddOnes⟩) (cOddOnes : PySem.W.codeIn K cdOddOnes "odd_ones" = true) (kOddOnes : PySem.W.keepIn K (.ref fOddOnes) = true)
    {fAsked : Addr} {odAsked anAsked : Option Addr} {slAsked : Array (Option Value)} {ocAsked kVAsked dcAsked pmAsked cdAsked ctAsked : Value}
    (aAsked : PySem.W.nsIn K mainGlobals "asked_of_any" = some (some (.ref fAsked))) (lAsked : K.lookup fAsked = some ⟨ocAsked, odAsked, .func (PySem.W.fnOf "asked_of_any" "asked_of_any" (defArgs sAsked) (defBody sAsked) (defScope sAsked) .none kVAsked dcAsked pmAsked anAsked cdAsked ctAsked), slAsked⟩) (cAsked : PySem.W.codeIn K cdAsked "asked_of_any" = true) (kAsked : PySem.W.keepIn K (.ref fAsked) = true)
    {fBroken : Addr} {odBroken anBroken : Option Addr} {slBroken : Array (Option Value)} {ocBroken kVBroken dcBroken pmBroken cdBroken ctBroken : Value}
    (aBroken : PySem.W.nsIn K mainGlobals "broken" = some (some (.ref fBroken))) (lBroken : K.lookup fBroken = some ⟨ocBroken, odBroken, .func (PySem.W.fnOf "broken" "broken" (defArgs sBroken) (defBody sBroken) (defScope sBroken) .none kVBroken dcBroken pmBroken anBroken cdBroken ctBroken), slBroken⟩) (cBroken : PySem.W.codeIn K cdBroken "broken" = true) (kBroken : PySem.W.keepIn K (.ref fBroken) = true)
    {fComes : Addr} {odComes anComes : Option Addr} {slComes : Array (Option Value)} {ocComes kVComes dcComes pmComes cdComes ctComes : Value}
    (aComes : PySem.W.nsIn K mainGlobals "comes" = some (some (.ref fComes))) (lComes : K.lookup fComes = some ⟨ocComes, odComes, .func (PySem.W.fnOf "comes" "comes" (defArgs sComes) (defBody sComes) (defScope sComes) .none kVComes dcComes pmComes anComes cdComes ctComes), slComes⟩) (cComes : PySem.W.codeIn K cdComes "comes" = true) (kComes : PySem.W.keepIn K (.ref fComes) = true)
    {fWish : Addr} {odWish anWish : Option Addr} {slWish : Array (Option Value)} {ocWish kVWish dcWish pmWish cdWish ctWish : Value}
    (aWish : PySem.W.nsIn K mainGlobals "wished" = some (some (.ref fWish))) (lWish : K.lookup fWish = some ⟨ocWish, odWish, .func (PySem.W.fnOf "wished" "wished" (defArgs sWish) (defBody sWish) (defScope sWish) .none kVWish dcWish pmWish anWish cdWish ctWish), slWish⟩) (cWish : PySem.W.codeIn K cdWish "wished" = true) (kWish : PySem.W.keepIn K (.ref fWish) = true)
    {fCan : Addr} {odCan anCan : Option Addr} {slCan : Array (Option Value)} {ocCan kVCan dcCan pmCan cdCan ctCan : Value}
    (aCan : PySem.W.nsIn K mainGlobals "can_be" = some (some (.ref fCan))) (lCan : K.lookup fCan = some ⟨ocCan, odCan, .func (PySem.W.fnOf "can_be" "can_be" (defArgs sCan) (defBody sCan) (defScope sCan) .none kVCan dcCan pmCan anCan cdCan ctCan), slCan⟩) (cCan : PySem.W.codeIn K cdCan "can_be" = true) (kCan : PySem.W.keepIn K (.ref fCan) = true)
    {fLaw : Addr} {odLaw anLaw : Option Addr} {slLaw : Array (Option Value)} {ocLaw kVLaw dcLaw pmLaw cdLaw ctLaw : Value}
    (aLaw : PySem.W.nsIn K mainGlobals "law" = some (some (.ref fLaw))) (lLaw : K.lookup fLaw = some ⟨ocLaw, odLaw, .func (PySem.W.fnOf "law" "law" (defArgs sLaw) (defBody sLaw) (defScope sLaw) .none kVLaw dcLaw pmLaw anLaw cdLaw ctLaw), slLaw⟩) (cLaw : PySem.W.codeIn K cdLaw "law" = true) (kLaw : PySem.W.keepIn K (.ref fLaw) = true)
    {tFEWEST_HOLDERS : Tok} (aFEWEST_HOLDERS : PySem.W.nsIn K mainGlobals "FEWEST_HOLDERS" = some (some (.int 3 tFEWEST_HOLDERS)))
    (z_abs : PySem.W.nsIn K mainGlobals "abs" = some none)
    (z_all : PySem.W.nsIn K mainGlobals "all" = some none)
    (z_any : PySem.W.nsIn K mainGlobals "any" = some none)
    (z_enumerate : PySem.W.nsIn K mainGlobals "enumerate" = some none)
    (z_int : PySem.W.nsIn K mainGlobals "int" = some none)
    (z_len : PySem.W.nsIn K mainGlobals "len" = some none)
    (z_list : PySem.W.nsIn K mainGlobals "list" = some none)
    (z_min : PySem.W.nsIn K mainGlobals "min" = some none)
    (z_range : PySem.W.nsIn K mainGlobals "range" = some none)
    (z_repr : PySem.W.nsIn K mainGlobals "repr" = some none)
    (z_sum : PySem.W.nsIn K mainGlobals "sum" = some none)
    (z_tuple : PySem.W.nsIn K mainGlobals "tuple" = some none)
    (z_zip : PySem.W.nsIn K mainGlobals "zip" = some none)
    : ∃ fd : FuncData, (∀ (s : Shared) (v : Value), BindsTo s fd ⟨[v], []⟩ [("_law_script", v)]) ∧ ∀ base : Heap, K.In base → base.Ns mainGlobals mg → SysD base → FnG l.prog w K mg base 10 fa fd ["_law_script"] (spLaw K) := by
  have e := hfa.symm.trans (PySem.W.mg_of X G aLaw)
  cases e
  have FBox := fun_mk (st := sBox) lBox cBox kBox
  have bBox := FBox.binds (ps := ["_law_script", "_law_k"]) fun _ _ _ _ _ _ us hl => match us, hl with | [_, _], _ => rfl
  have gBox := PySem.W.mg_of X G aBox
  have FTake := fun_mk (st := sTake) lTake cTake kTake
  have bTake := FTake.binds (ps := ["_law_box_here", "_law_many"]) fun _ _ _ _ _ _ us hl => match us, hl with | [_, _], _ => rfl
  have gTake := PySem.W.mg_of X G aTake
  have FSplit := fun_mk (st := sSplit) lSplit cSplit kSplit
  have bSplit := FSplit.binds (ps := ["_law_box_here", "_law_total", "_law_many"]) fun _ _ _ _ _ _ us hl => match us, hl with | [_, _, _], _ => rfl
  have gSplit := PySem.W.mg_of X G aSplit
  have FPlaces := fun_mk (st := sPlaces) lPlaces cPlaces kPlaces
  have bPlaces := FPlaces.binds (ps := ["_law_box_here", "_law_amounts", "_law_nothing"]) fun _ _ _ _ _ _ us hl => match us, hl with | [_, _, _], _ => rfl
  have gPlaces := PySem.W.mg_of X G aPlaces
  have FSmall := fun_mk (st := sSmall) lSmall cSmall kSmall
  have bSmall := FSmall.binds (ps := ["_law_box_here"]) fun _ _ _ _ _ _ us hl => match us, hl with | [_], _ => rfl
  have gSmall := PySem.W.mg_of X G aSmall
  have FDeed := fun_mk (st := sDeed) lDeed cDeed kDeed
  have bDeed := FDeed.binds (ps := ["_law_row", "_law_i", "_law_j"]) fun _ _ _ _ _ _ us hl => match us, hl with | [_, _, _], _ => rfl
  have gDeed := PySem.W.mg_of X G aDeed
  have FNext := fun_mk (st := sNext) lNext cNext kNext
  have bNext := FNext.binds (ps := ["_law_row"]) fun _ _ _ _ _ _ us hl => match us, hl with | [_], _ => rfl
  have gNext := PySem.W.mg_of X G aNext
  have FAll := fun_mk (st := sAll) lAll cAll kAll
  have bAll := FAll.binds (ps := ["_law_row"]) fun _ _ _ _ _ _ us hl => match us, hl with | [_], _ => rfl
  have gAll := PySem.W.mg_of X G aAll
  have FAw := fun_mk (st := sAw) lAw cAw kAw
  have bAw := FAw.binds (ps := ["_law_places_here", "_law_most"]) fun _ _ _ _ _ _ us hl => match us, hl with | [_, _], _ => rfl
  have gAw := PySem.W.mg_of X G aAw
  have FMeets := fun_mk (st := sMeets) lMeets cMeets kMeets
  have bMeets := FMeets.binds (ps := ["_law_row", "_law_wishes"]) fun _ _ _ _ _ _ us hl => match us, hl with | [_, _], _ => rfl
  have gMeets := PySem.W.mg_of X G aMeets
  have FHolders := fun_mk (st := sHolders) lHolders cHolders kHolders
  have bHolders := FHolders.binds (ps := ["row"]) fun _ _ _ _ _ _ us hl => match us, hl with | [_], _ => rfl
  have gHolders := PySem.W.mg_of X G aHolders
  have FRef := fun_mk (st := sRef) lRef cRef kRef
  have bRef := FRef.binds (ps := ["row"]) fun _ _ _ _ _ _ us hl => match us, hl with | [_], _ => rfl
  have gRef := PySem.W.mg_of X G aRef
  have FFree := fun_mk (st := sFree) lFree cFree kFree
  have bFree := FFree.binds (ps := ["amount", "wish"]) fun _ _ _ _ _ _ us hl => match us, hl with | [_, _], _ => rfl
  have gFree := PySem.W.mg_of X G aFree
  have FCommon := fun_mk (st := sCommon) lCommon cCommon kCommon
  have bCommon := FCommon.binds (ps := ["a", "b"]) fun _ _ _ _ _ _ us hl => match us, hl with | [_, _], _ => rfl
  have gCommon := PySem.W.mg_of X G aCommon
  have FUnit := fun_mk (st := sUnit) lUnit cUnit kUnit
  have bUnit := FUnit.binds (ps := ["row"]) fun _ _ _ _ _ _ us hl => match us, hl with | [_], _ => rfl
  have gUnit := PySem.W.mg_of X G aUnit
  have FFill := fun_mk (st := sFill) lFill cFill kFill
  have bFill := FFill.binds (ps := ["row", "wishes"]) fun _ _ _ _ _ _ us hl => match us, hl with | [_, _], _ => rfl
  have gFill := PySem.W.mg_of X G aFill
  have FTwosIn := fun_mk (st := sTwosIn) lTwosIn cTwosIn kTwosIn
  have bTwosIn := FTwosIn.binds (ps := ["n"]) fun _ _ _ _ _ _ us hl => match us, hl with | [_], _ => rfl
  have gTwosIn := PySem.W.mg_of X G aTwosIn
  have FTwos := fun_mk (st := sTwos) lTwos cTwos kTwos
  have bTwos := FTwos.binds (ps := ["row"]) fun _ _ _ _ _ _ us hl => match us, hl with | [_], _ => rfl
  have gTwos := PySem.W.mg_of X G aTwos
  have FHfn := fun_mk (st := sHfn) lHfn cHfn kHfn
  have bHfn := FHfn.binds (ps := ["row", "other"]) fun _ _ _ _ _ _ us hl => match us, hl with | [_, _], _ => rfl
  have gHfn := PySem.W.mg_of X G aHfn
  have FOddPart := fun_mk (st := sOddPart) lOddPart cOddPart kOddPart
  have bOddPart := FOddPart.binds (ps := ["n"]) fun _ _ _ _ _ _ us hl => match us, hl with | [_], _ => rfl
  have gOddPart := PySem.W.mg_of X G aOddPart
  have FMeasure := fun_mk (st := sMeasure) lMeasure cMeasure kMeasure
  have bMeasure := FMeasure.binds (ps := ["row"]) fun _ _ _ _ _ _ us hl => match us, hl with | [_], _ => rfl
  have gMeasure := PySem.W.mg_of X G aMeasure
  have FOddOnes := fun_mk (st := sOddOnes) lOddOnes cOddOnes kOddOnes
  have bOddOnes := FOddOnes.binds (ps := ["row"]) fun _ _ _ _ _ _ us hl => match us, hl with | [_], _ => rfl
  have gOddOnes := PySem.W.mg_of X G aOddOnes
  have FAsked := fun_mk (st := sAsked) lAsked cAsked kAsked
  have bAsked := FAsked.binds (ps := ["row", "other"]) fun _ _ _ _ _ _ us hl => match us, hl with | [_, _], _ => rfl
  have gAsked := PySem.W.mg_of X G aAsked
  have FBroken := fun_mk (st := sBroken) lBroken cBroken kBroken
  have bBroken := FBroken.binds (ps := ["row", "other"]) fun _ _ _ _ _ _ us hl => match us, hl with | [_, _], _ => rfl
  have gBroken := PySem.W.mg_of X G aBroken
  have FComes := fun_mk (st := sComes) lComes cComes kComes
  have bComes := FComes.binds (ps := ["row", "other"]) fun _ _ _ _ _ _ us hl => match us, hl with | [_, _], _ => rfl
  have gComes := PySem.W.mg_of X G aComes
  have FWish := fun_mk (st := sWish) lWish cWish kWish
  have bWish := FWish.binds (ps := ["row", "wishes"]) fun _ _ _ _ _ _ us hl => match us, hl with | [_, _], _ => rfl
  have gWish := PySem.W.mg_of X G aWish
  have FCan := fun_mk (st := sCan) lCan cCan kCan
  have bCan := FCan.binds (ps := ["row", "wishes"]) fun _ _ _ _ _ _ us hl => match us, hl with | [_, _], _ => rfl
  have gCan := PySem.W.mg_of X G aCan
  have FLaw := fun_mk (st := sLaw) lLaw cLaw kLaw
  have gFEWEST_HOLDERS := PySem.W.mg_of X G aFEWEST_HOLDERS
  have m_abs := PySem.W.mg_none_of X G z_abs
  have m_all := PySem.W.mg_none_of X G z_all
  have m_any := PySem.W.mg_none_of X G z_any
  have m_enumerate := PySem.W.mg_none_of X G z_enumerate
  have m_int := PySem.W.mg_none_of X G z_int
  have m_len := PySem.W.mg_none_of X G z_len
  have m_list := PySem.W.mg_none_of X G z_list
  have m_min := PySem.W.mg_none_of X G z_min
  have m_range := PySem.W.mg_none_of X G z_range
  have m_repr := PySem.W.mg_none_of X G z_repr
  have m_sum := PySem.W.mg_none_of X G z_sum
  have m_tuple := PySem.W.mg_none_of X G z_tuple
  have m_zip := PySem.W.mg_none_of X G z_zip
  refine ⟨PySem.W.fnOf "law" "law" (defArgs sLaw) (defBody sLaw) (defScope sLaw) .none kVLaw dcLaw pmLaw anLaw cdLaw ctLaw, fun s v => .of_eq rfl, fun base _ _ sys => ?_⟩
  have GBox := ok_box (P := l.prog) (w := w) (mg := mg) (base := base) (k := 0) FBox m_len m_abs m_int
  have GTake := ok_take (P := l.prog) (w := w) (mg := mg) (base := base) (k := 0) FTake
  have GSplit := ok_split (P := l.prog) (w := w) (mg := mg) (base := base) (k := 0) FSplit FTake bTake gTake m_range
  have GPlaces := ok_places (P := l.prog) (w := w) (mg := mg) (base := base) (k := 0) FPlaces FTake bTake gTake m_len m_list m_tuple
  have GSmall := ok_small (P := l.prog) (w := w) (mg := mg) (base := base) (k := 0) FSmall FTake bTake gTake FSplit bSplit gSplit FPlaces bPlaces gPlaces GPlaces m_range
  have GDeed := ok_deedL (P := l.prog) (w := w) (mg := mg) (base := base) (k := 0) FDeed m_list m_tuple
  have GNext := ok_next (P := l.prog) (w := w) (mg := mg) (base := base) (k := 0) FNext FDeed bDeed gDeed GDeed m_len m_range
  have GAll := ok_all (P := l.prog) (w := w) (mg := mg) (base := base) (k := 0) FAll FNext bNext gNext GNext
  have GAw := ok_aw (P := l.prog) (w := w) (mg := mg) (base := base) (k := 0) FAw m_range m_list
  have GMeets := ok_meets (P := l.prog) (w := w) (mg := mg) (base := base) (k := 0) FMeets m_all m_zip
  have GHolders := ok_holders (P := l.prog) (w := w) (mg := mg) (base := base) (k := 0) FHolders m_tuple m_enumerate
  have GRef := ok_ref (P := l.prog) (w := w) (mg := mg) (base := base) (k := 0) FRef FHolders bHolders gHolders GHolders gFEWEST_HOLDERS m_len
  have GFree := ok_free (P := l.prog) (w := w) (mg := mg) (base := base) (k := 0) FFree
  have GCommon := ok_common (P := l.prog) (w := w) (mg := mg) (base := base) (k := 0) FCommon
  have GUnit := ok_unit (P := l.prog) (w := w) (mg := mg) (base := base) (k := 0) FUnit FCommon bCommon gCommon
  have GFill := ok_fill (P := l.prog) (w := w) (mg := mg) (base := base) (k := 0) FFill FFree bFree gFree FUnit bUnit gUnit GUnit m_sum m_len m_enumerate m_tuple
  have GTwosIn := ok_twosIn (P := l.prog) (w := w) (mg := mg) (base := base) (k := 0) FTwosIn
  have GTwos := ok_twos (P := l.prog) (w := w) (mg := mg) (base := base) (k := 0) FTwos FTwosIn bTwosIn gTwosIn GTwosIn FUnit bUnit gUnit GUnit
  have GHfn := ok_hfn (P := l.prog) (w := w) (mg := mg) (base := base) (k := 0) FHfn m_any m_zip
  have GOddPart := ok_oddPart (P := l.prog) (w := w) (mg := mg) (base := base) (k := 0) FOddPart FTwosIn bTwosIn gTwosIn
  have GMeasure := ok_measure (P := l.prog) (w := w) (mg := mg) (base := base) (k := 0) FMeasure FOddPart bOddPart gOddPart GOddPart FUnit bUnit gUnit GUnit
  have GOddOnes := ok_oddOnes (P := l.prog) (w := w) (mg := mg) (base := base) (k := 0) FOddOnes FTwosIn bTwosIn gTwosIn GTwosIn FTwos bTwos gTwos GTwos m_len
  have GAsked := ok_asked (P := l.prog) (w := w) (mg := mg) (base := base) (k := 0) FAsked FTwos bTwos gTwos GTwos FHfn bHfn gHfn GHfn FMeasure bMeasure gMeasure GMeasure FOddOnes bOddOnes gOddOnes GOddOnes FHolders bHolders gHolders GHolders m_sum m_len
  have GBroken := ok_broken (P := l.prog) (w := w) (mg := mg) (base := base) (k := 0) FBroken FAsked bAsked gAsked GAsked FHolders bHolders gHolders GHolders m_len m_tuple
  have GComes := ok_comes (P := l.prog) (w := w) (mg := mg) (base := base) (k := 0) FComes FBroken bBroken gBroken GBroken
  have GWish := ok_wish (P := l.prog) (w := w) (mg := mg) (base := base) (k := 0) FWish FRef bRef gRef GRef FFill bFill gFill GFill FComes bComes gComes GComes
  have GCan := ok_can (P := l.prog) (w := w) (mg := mg) (base := base) (k := 0) FCan FWish bWish gWish GWish
  exact ok_law (k := 0) sys FLaw FBox bBox gBox GBox FSmall bSmall gSmall GSmall FAll bAll gAll GAll FAw bAw gAw GAw FMeets bMeets gMeets GMeets FWish bWish gWish GWish FCan bCan gCan GCan m_len m_min m_sum m_range m_list m_repr
end K84
open PySem PySem.W PyProof.Rows
set_option maxHeartbeats 0 in
theorem PySem.Challenge.cw_matchgift_k84_whole_all_wishes_of_small_holds : PySem.Challenge.rw_matchgift_k84_whole_all_wishes_of_small.Holds := by
  w_on; o_law; k_head; (case hw => w_witness2)
  k_fill
  refine MG.walkG (l := PySem.Challenge.rw_matchgift_k84_whole_all_wishes_of_small) (n := 63) (k := 10) (x := "_law_script") (sp := K84.spLaw) rfl (by decide) rfl ⟨rfl, by decide, by decide⟩ (by decide +kernel) (fun w h Y => PySem.W.kIn_of Y) ?F (fun _ _ a ns hl _ hS => ⟨a, ns, rfl, hS, hl, fun _ => rfl⟩)
  case F =>
    intro w mg fa h KX G hmg
    refine' K84.all_mk KX G hmg ?aBox ?lBox ?cBox ?kBox ?aTake ?lTake ?cTake ?kTake ?aSplit ?lSplit ?cSplit ?kSplit ?aPlaces ?lPlaces ?cPlaces ?kPlaces ?aSmall ?lSmall ?cSmall ?kSmall ?aDeed ?lDeed ?cDeed ?kDeed ?aNext ?lNext ?cNext ?kNext ?aAll ?lAll ?cAll ?kAll ?aAw ?lAw ?cAw ?kAw ?aMeets ?lMeets ?cMeets ?kMeets ?aHolders ?lHolders ?cHolders ?kHolders ?aRef ?lRef ?cRef ?kRef ?aFree ?lFree ?cFree ?kFree ?aCommon ?lCommon ?cCommon ?kCommon ?aUnit ?lUnit ?cUnit ?kUnit ?aFill ?lFill ?cFill ?kFill ?aTwosIn ?lTwosIn ?cTwosIn ?kTwosIn ?aTwos ?lTwos ?cTwos ?kTwos ?aHfn ?lHfn ?cHfn ?kHfn ?aOddPart ?lOddPart ?cOddPart ?kOddPart ?aMeasure ?lMeasure ?cMeasure ?kMeasure ?aOddOnes ?lOddOnes ?cOddOnes ?kOddOnes ?aAsked ?lAsked ?cAsked ?kAsked ?aBroken ?lBroken ?cBroken ?kBroken ?aComes ?lComes ?cComes ?kComes ?aWish ?lWish ?cWish ?kWish ?aCan ?lCan ?cCan ?kCan ?aLaw ?lLaw ?cLaw ?kLaw ?aFEWEST_HOLDERS ?z_abs ?z_all ?z_any ?z_enumerate ?z_int ?z_len ?z_list ?z_min ?z_range ?z_repr ?z_sum ?z_tuple ?z_zip
    (case aBox => k_is); (case lBox => k_is); (case cBox => k_is); (case kBox => k_is); (case aTake => k_is); (case lTake => k_is); (case cTake => k_is); (case kTake => k_is); (case aSplit => k_is); (case lSplit => k_is); (case cSplit => k_is); (case kSplit => k_is); (case aPlaces => k_is); (case lPlaces => k_is); (case cPlaces => k_is); (case kPlaces => k_is); (case aSmall => k_is); (case lSmall => k_is); (case cSmall => k_is); (case kSmall => k_is); (case aDeed => k_is); (case lDeed => k_is); (case cDeed => k_is); (case kDeed => k_is); (case aNext => k_is); (case lNext => k_is); (case cNext => k_is); (case kNext => k_is); (case aAll => k_is); (case lAll => k_is); (case cAll => k_is); (case kAll => k_is); (case aAw => k_is); (case lAw => k_is); (case cAw => k_is); (case kAw => k_is); (case aMeets => k_is); (case lMeets => k_is); (case cMeets => k_is); (case kMeets => k_is); (case aHolders => k_is); (case lHolders => k_is); (case cHolders => k_is); (case kHolders => k_is); (case aRef => k_is); (case lRef => k_is); (case cRef => k_is); (case kRef => k_is); (case aFree => k_is); (case lFree => k_is); (case cFree => k_is); (case kFree => k_is); (case aCommon => k_is); (case lCommon => k_is); (case cCommon => k_is); (case kCommon => k_is); (case aUnit => k_is); (case lUnit => k_is); (case cUnit => k_is); (case kUnit => k_is); (case aFill => k_is); (case lFill => k_is); (case cFill => k_is); (case kFill => k_is); (case aTwosIn => k_is); (case lTwosIn => k_is); (case cTwosIn => k_is); (case kTwosIn => k_is); (case aTwos => k_is); (case lTwos => k_is); (case cTwos => k_is); (case kTwos => k_is); (case aHfn => k_is); (case lHfn => k_is); (case cHfn => k_is); (case kHfn => k_is); (case aOddPart => k_is); (case lOddPart => k_is); (case cOddPart => k_is); (case kOddPart => k_is); (case aMeasure => k_is); (case lMeasure => k_is); (case cMeasure => k_is); (case kMeasure => k_is); (case aOddOnes => k_is); (case lOddOnes => k_is); (case cOddOnes => k_is); (case kOddOnes => k_is); (case aAsked => k_is); (case lAsked => k_is); (case cAsked => k_is); (case kAsked => k_is); (case aBroken => k_is); (case lBroken => k_is); (case cBroken => k_is); (case kBroken => k_is); (case aComes => k_is); (case lComes => k_is); (case cComes => k_is); (case kComes => k_is); (case aWish => k_is); (case lWish => k_is); (case cWish => k_is); (case kWish => k_is); (case aCan => k_is); (case lCan => k_is); (case cCan => k_is); (case kCan => k_is); (case aLaw => k_is); (case lLaw => k_is); (case cLaw => k_is); (case kLaw => k_is); (case aFEWEST_HOLDERS => k_is); (case z_abs => k_is); (case z_all => k_is); (case z_any => k_is); (case z_enumerate => k_is); (case z_int => k_is); (case z_len => k_is); (case z_list => k_is); (case z_min => k_is); (case z_range => k_is); (case z_repr => k_is); (case z_sum => k_is); (case z_tuple => k_is); (case z_zip => k_is)
