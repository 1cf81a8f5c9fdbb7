import PyProof.Rows.All
import Wide.All
import OpenK.AllK
import Wide.FinOn
import HandS.ForMost
import HandS.IsInst
import HandS.AnyAll
import HandS.EndTab
import HandS.Walk
import HandS.TryOnly
import HandS.TupLe
import PySem.Challenge.RW_wipeways_k01_names_and_boxes
set_option Elab.async false
set_option linter.all false
set_option maxRecDepth 100000
set_option maxHeartbeats 2000000
namespace Kk
open PySem PySem.Spec PyProof.Rows L2

/-- the element of a generator over signs, where the module's names are to be read -/
def EltB (X : Cx) (sc : Scope) (x : Str) (e : Expr) (pb : Nat → Bool) : Prop :=
  ∀ (ge : Env) (B : Around) (F : Value → Shared → Prop) (c : Nat) (t : Tok) (z : Shared) (m : Str → Option Value),
    ge.scope = sc → ge.globals = mainGlobals → (∀ b o, X.base.get? b = some o → z.heap.get? b = some o) →
    z.heap.Ns ge.locals m → m x = some (.str ⟨#[c]⟩ t) →
    wpAny (model X.prog X.w) B (eval e ge) (fun y z' => y = .bool (pb c) ∧ Keeps z z') F z

section
variable {X : Cx} {pins : List (Addr × Obj)} {σ : L2.St} {H : Hp} {s : Shared}

theorem genB {c P : Addr} {e it : Expr} {x : Str} {px gp : Pos} {sc : Scope} {pb : Nat → Bool} {te : TE} {k : Nat} {G : Value → Shared → Prop} {R : Str → Hp → Prop}
    (room : Room k X.A) (tab : GxR.TabB X.base X.mg c P) (code : X.env.code = .ref c) (gs : GxR.GenS X.env sc x) (pit : PE X it te) (pel : EltB X sc x e pb)
    (fold : ∀ v, genFold it X.env v = pure v) (I : Inv X pins σ H s) (want : te σ H fun v H1 => ∃ a : Str, v = .str a ∧ GxR.TabG H1 P ∧ R a H1)
    (fin : ∀ a H1 g s5, R a H1 → GxR.Ready X pins σ H1 P a pb g s5 → G (.ref g) s5) :
    wpAny (model X.prog X.w) X.A (eval (.GeneratorExp e [⟨.Name x px, it, [], 0⟩] sc gp) X.env) G X.xe s := by
  have deep : X.A.depth < recursionLimit := by have q := room.dp; omega
  refine wpAny_GeneratorExp_walksQ room.hd gs.co (closure_ok gs.free) gs.cell gs.dot gs.loc gs.kind deep ?_ fold
  refine thn (pit.run pins s σ H _ I want) fun xv z ⟨v, H1, J, rv, got⟩ => ?_
  obtain ⟨a, rfl, ⟨rows, isT, trip⟩, rest⟩ := got
  obtain ⟨t, rfl⟩ := _root_.id rv
  refine wpAny_pyIter_str fun io St W st0 => ?_
  have atP : z.heap.get? P = some { cls := .none, data := .fields rows } := J.hok P _ isT
  have ltP : P < z.heap.objs.size := Heap.lt_size atP
  have atP2 : (z.heap.push io).get? P = some { cls := .none, data := .fields rows } := Heap.get?_push_of_some _ atP
  have chd : PySem.W.CodeHd (z.heap.push io) c P := tab.code.keeps fun b u q => Heap.get?_push_of_some _ (J.bk b u q)
  have nl : (z.heap.push io).NoLimit := J.nolimit.push io
  have go : ∀ (cv : Value) (h3 : Heap) (tk : Nat) (rows' : Array Value), Heap.ExtBut P (z.heap.push io) h3 → (z.heap.push io).objs.size ≤ h3.objs.size →
      h3.get? P = some { cls := .none, data := .fields rows' } → (∃ more, rows' = rows ++ more) → TriplesOk rows'.toList →
      wpAny (model X.prog X.w) X.A (builtinsFor X.env.globals X.env.builtins) (fun bi s4 =>
        ∃ Ia fp wr n0 Pf S0 pz F, Value.ref z.heap.objs.size = .ref Ia ∧ (∀ B : Around, B.handled = none → Walks X.prog X.w B Ia fp wr n0 Pf S0) ∧
          S0 0 s4.heap ∧ (∀ b ∈ fp, b < s4.heap.objs.size) ∧ s4.heap.NoLimit ∧ cStatics ∉ wr ∧
          (∀ hr : Heap, (∀ b o, s4.heap.get? b = some o → hr.get? b = some o) →
            QuietGen X.prog X.w (genEnv sc (cloFrom X.env.cells sc.names []) s4.heap.objs.size cv bi X.env) x [] e (List.range s4.heap.objs.size) wr Pf pz F hr) ∧
          (∀ g h5 tk gst, gst.bare = true → s4.heap.objs.size < g → h5.objs.size = g + 1 → (∀ b o, s4.heap.get? b = some o → h5.get? b = some o) →
            WalksS X.prog X.w X.A.in4 g (g :: s4.heap.objs.size :: List.range s4.heap.objs.size) (s4.heap.objs.size :: wr) (GenOnlyQ s4.gens.size) (passing pz n0 0).length
              (fun j y => ∃ i, (passing pz n0 0)[j]? = some i ∧ F i y) (GenAt X.prog X.w X.A.in4 g s4.gens.size s4.heap.objs.size (List.range s4.heap.objs.size) wr pz n0 F) →
            GenAt X.prog X.w X.A.in4 g s4.gens.size s4.heap.objs.size (List.range s4.heap.objs.size) wr pz n0 F 0 { s4 with gens := s4.gens.push gst, toks := tk, heap := h5 } →
            G (.ref g) { s4 with gens := s4.gens.push gst, toks := tk, heap := h5 })) X.xe { z with heap := h3, toks := tk } := by
    intro cv h3 tk rows' ext le3 at3 grown trip3
    obtain ⟨bm, ob, b1, b2, b3, b4, b5, b6, b7, b8⟩ := tab.bm
    have cP : cStatics ≠ P := fun q => by
      obtain ⟨_, ns, _⟩ := J.nolimit
      obtain ⟨o9, es, ep, g9, d9, _⟩ := ns
      rw [q, atP] at g9; cases g9; cases d9
    have cLt : cStatics < z.heap.objs.size := let ⟨_, ns, _⟩ := J.nolimit; ns.lt
    have szI : (z.heap.push io).objs.size = z.heap.objs.size + 1 := Heap.size_push ..
    have kp3 : ∀ b u, b ≠ P → z.heap.get? b = some u → h3.get? b = some u := fun b u nb q => ext b u nb (Heap.get?_push_of_some _ q)
    have kpB : ∀ b u, X.base.get? b = some u → h3.get? b = some u ∧ b < z.heap.objs.size := fun b u q => by
      obtain ⟨q1, q2⟩ := J.bs b u q
      exact ⟨kp3 b u (fun zz => by rw [zz, isT] at q2; cases q2) q1, Heap.lt_size q1⟩
    refine wpAny_builtinsFor (m := X.mg) (by rw [J.ok.glob]; exact ((J.mod.glob.keeps J.bk).push io).extBut ext tab.gP) b1 b2 (kp3 _ _ b4 (J.bk _ _ b5)) b6 b7 b8 ?_
    refine ⟨z.heap.objs.size, [z.heap.objs.size], [z.heap.objs.size], a.cps.size, SignAt a, St, (fun _ => true), (fun i y => ∃ cc, a.cps[i]? = some cc ∧ y = .bool (pb cc)), rfl, W,
      ?_, ?_, nl.extBut ext cP, ?_, ?_, ?_⟩
    · refine (W X.A room.hd).frame _ _ _ st0 fun b hb u q => ext b u (fun zz => ?_) q
      rcases List.mem_cons.mp hb with z2 | z2
      · exact Nat.ne_of_lt ltP (zz.symm.trans z2)
      · cases z2
    · intro b hb
      rcases List.mem_cons.mp hb with q | q
      · rw [q]; show z.heap.objs.size < h3.objs.size; omega
      · cases q
    · intro q
      rcases List.mem_cons.mp q with q | q
      · exact Nat.ne_of_lt cLt q
      · cases q
    · intro hr hhr
      refine ⟨fun B E' i v s2 m2 hB hPv hn hm hk => ?_, fun B E' i v s2 m2 hB hPv hp hn hm hk => ?_⟩
      · simp only [List.forIn_nil]
        exact wpAny_pure ⟨rfl, GxR.keeps_refl _⟩
      · obtain ⟨cc, u, hcc, rfl⟩ := hPv
        refine wpAny_mono (pel _ B E' cc u s2 m2 rfl J.ok.glob (fun b o q => ?_) hn hm) (fun y s3 r => ⟨⟨cc, hcc, r.1⟩, r.2⟩) fun _ _ q => q
        obtain ⟨q1, q2⟩ := kpB b o q
        exact hk b (List.mem_range.mpr (Heap.lt_size q1)) (fun zz => by
          rcases List.mem_cons.mp zz with zz | zz
          · exact Nat.ne_of_lt q2 zz
          · cases zz) o (hhr b o q1)
    · intro g h5 tk5 gst bare gt sz5 kp5 W5 at0
      simp only [GxR.passing_true, List.length_range] at W5
      refine fin a H1 g _ rest ⟨_, _, _, _, _, W5.in4_1, at0, ?_, fun s9 mv => ?_⟩
      · intro j y sj Qj Ej hy hQj
        obtain ⟨i, hij, cc, hcc, rfl⟩ := hy
        obtain ⟨hj, ej⟩ := List.getElem?_eq_some_iff.mp hij
        rw [List.getElem_range] at ej
        subst ej
        have q9 : a.cps.toList[j]? = some cc := by rw [Array.getElem?_toList]; exact hcc
        have hQ2 : Qj (GxR.trF pb a.cps.toList j) sj := hQj
        rw [GxR.trF_some q9] at hQ2
        exact wpAny_truthy_bool hQ2
      · obtain ⟨more, em⟩ := grown
        have nw : ∀ b u, z.heap.get? b = some u → b ∉ h3.objs.size :: [z.heap.objs.size] := fun b u q hb => by
          have lb := Heap.lt_size q
          rcases List.mem_cons.mp hb with q | q
          · rw [q] at lb
            have q9 : (h3.objs.size : Nat) < z.heap.objs.size := lb
            omega
          · rcases List.mem_cons.mp q with q | q
            · rw [q] at lb; exact Nat.lt_irrefl _ lb
            · cases q
        have J2 := GxR.inv_tab (more := more) (h' := s9.heap) (g' := s9.gens) (d' := s9.drawn) (t' := s9.toks) J isT (fun b u nb q => mv.heap b u (nw b u q) (kp5 b u (kp3 b u nb q)))
          (by rw [← em]; exact mv.heap P _ (nw P _ atP) (kp5 P _ at3)) (AllBare.movedS (J.bare.push bare) mv)
        rw [GxR.sh_eta z s9 mv.os] at J2
        exact ⟨upd H1 P (.tbl (rows ++ more)), ⟨⟨rows ++ more, upd_same, by rw [← em]; exact trip3⟩, fun b nb => upd_ne nb⟩, J2⟩
  refine ⟨nl, ?_⟩
  cases am : codeAmong gp rows.toList with
  | none =>
    refine wpAny_genexprCodeX code (chd.code atP2 trip) (chd.tab atP2) am fun c' h' tk hx hge hlt hco _ htab _ => ?_
    obtain ⟨o1, vs, f1, tf, fl, tg, inF, tx, tt, op, _, _, _, _, _, _, _, _, _, htr, _⟩ := hco
    exact go _ h' tk _ hx (Nat.le_trans hge (Nat.le_of_lt hlt)) htab.2 ⟨_, rfl⟩ htr
  | some cv =>
    refine wpAny_genexprCode_hit code (chd.code atP2 trip) am ?_
    exact go cv (z.heap.push io) z.toks rows (Heap.ExtBut.refl _ _) (Nat.le_refl _) atP2 ⟨#[], by simp⟩ trip

/-- all(e for x in a text) -/
theorem pe_allB {c P : Addr} {e it : Expr} {x : Str} {px p pos gp : Pos} {sc : Scope} {pb : Nat → Bool} {te : TE} {k : Nat}
    (room : Room k X.A) (hg : Gl X "all") (hm : X.mg "all" = none) (tab : GxR.TabB X.base X.mg c P) (code : X.env.code = .ref c) (gs : GxR.GenS X.env sc x) (pit : PE X it te) (pel : EltB X sc x e pb)
    (fold : ∀ v, genFold it X.env v = pure v)
    (he : starEach [.GeneratorExp e [⟨.Name x px, it, [], 0⟩] sc gp] X.env = (false, eval (.GeneratorExp e [⟨.Name x px, it, [], 0⟩] sc gp) X.env) :: starEach [] X.env := by rfl) :
    PE X (.Call (.Name "all" p) [.GeneratorExp e [⟨.Name x px, it, [], 0⟩] sc gp] [] pos) (GxR.tAllS P pb te) := by
  refine ⟨fun pins s σ H Q I want => ?_⟩
  have hb : bootBuiltins "all" = some (.builtin "all") := by decide +kernel
  refine wpAny_Call_Name_kw (ld_blt I hg hm hb ?_)
  refine PyProof.Rows.callWith_builtin1 ?_ he (by rfl)
  rw [he]
  show wpAny _ _ (spliced ((false, eval (.GeneratorExp e [⟨.Name x px, it, [], 0⟩] sc gp) X.env) :: backTo pos (starEach [] X.env))) _ _ s
  refine Calls.spliced_cons (genB (R := fun a H1 => ∀ H2, GxR.Tabbed P H1 H2 → Q (.bl (a.cps.toList.all pb)) H2) room tab code gs pit pel fold I want fun a H1 g s5 hR rd => ?_)
  obtain ⟨fp, wr, G, F, St, W, hst, htr, hI⟩ := rd
  refine Calls.spliced_nil ?_
  refine call_all_walkS (W.self 0 _ _ _ hst ⟨g, fp, wr, G, _, F, St, _, rfl, W, hst, htr, fun s' mv => ?_⟩)
  obtain ⟨H2, hT, J⟩ := hI s' mv
  refine ⟨.bl _, H2, J, rfl, ?_⟩
  rw [GxR.all_signs a pb]
  exact hR H2 hT

/-- x in NAME: NAME a text of the module -/
theorem elt_in {sc : Scope} {x y z : Str} {tz : Tok} {p1 p2 p3 : Pos} (gls : X.base.Ns mainGlobals X.mg) (hk : sc.kind = .function) (hl : sc.names.lookup x = some .local)
    (hy : sc.names.lookup y = some .globalImplicit) (hm : X.mg y = some (.str z tz)) (hd : (x == ("__debug__" : Str)) = false := by decide) (hd2 : (y == ("__debug__" : Str)) = false := by decide) :
    EltB X sc x (.Compare (.Name x p1) [.In] [.Name y p2] p3) (fun c => decide (c ∈ z.cps.toList)) := by
  intro ge B F c t q m hs hgl kb hn hx
  refine wpAny_Compare1 ?_
  refine wpAny_Name (wpAny_loadName_local (by rw [hs]; exact hk) (show ge.scope.names.lookup x = some .local by rw [hs]; exact hl) hn hx ?_) hd
  refine Calls.Name_function_global (by rw [hs]; exact hk) ?_ (Calls.loadGlobal_global (by rw [hgl]; exact gls.keeps kb) hm ?_) hd2
  · show ge.scope.names.lookup y = some .globalImplicit
    rw [hs]; exact hy
  · refine PyProof.Rows.in_str ⟨?_, GxR.keeps_refl _⟩
    rw [PySem.StrLaws.found_one z c]
end
end Kk

namespace Kk
open PySem PySem.Spec PyProof.Rows L2

/-- no table of a code object -/
def NoTb (o : HO) : Prop := ∀ ps, o ≠ .tbl ps
theorem nt_lst {xs : List V} : NoTb (.lst xs) := fun _ h => by cases h
theorem nt_tup {xs : List V} : NoTb (.tup xs) := fun _ h => by cases h
theorem nt_frz {o : Obj} {u : HO} : NoTb (.frz o u) := fun _ h => by cases h
/-- what stands stays, but for xs and what the tables grow by; nothing vanishes -/
structure Ex (xs : List Addr) (H H' : Hp) : Prop where
  a : ∀ b o, b ∉ xs → H b = some o → NoTb o → H' b = some o
  t : ∀ P, GxR.TabG H P → GxR.TabG H' P
  f : ∀ b, H' b = none → H b = none
theorem Ex.refl {xs : List Addr} {H : Hp} : Ex xs H H := ⟨fun _ _ _ h _ => h, fun _ h => h, fun _ h => h⟩
theorem Ex.trans {xs : List Addr} {H H1 H2 : Hp} (a : Ex xs H H1) (b : Ex xs H1 H2) : Ex xs H H2 := ⟨fun c o n h t => b.a c o n (a.a c o n h t) t, fun P h => b.t P (a.t P h), fun c h => a.f c (b.f c h)⟩
theorem Ex.mono {xs ys : List Addr} {H H' : Hp} (a : Ex xs H H') (s : ∀ b, b ∈ xs → b ∈ ys) : Ex ys H H' := ⟨fun c o n h t => a.a c o (fun q => n (s c q)) h t, a.t, a.f⟩
theorem Ex.nil {ys : List Addr} {H H' : Hp} (a : Ex [] H H') : Ex ys H H' := a.mono fun _ q => by cases q
theorem tab_upd {H : Hp} {P p : Addr} {o : HO} (t : GxR.TabG H P) (n : ∀ ps, H p ≠ some (.tbl ps)) : GxR.TabG (upd H p o) P := by
  obtain ⟨ps, h, q⟩ := t
  refine ⟨ps, ?_, q⟩
  rw [upd_ne fun z => n ps (by rw [← z]; exact h)]
  exact h
theorem upd_free {H : Hp} {p b : Addr} {o : HO} (h : upd H p o b = none) : H b = none := by
  by_cases z : b = p
  · rw [z, upd_same] at h; cases h
  · rw [upd_ne z] at h; exact h
theorem Ex.new {xs : List Addr} {H : Hp} {p : Addr} {o : HO} (n : H p = none) : Ex xs H (upd H p o) :=
  ⟨fun b u _ h _ => by rw [upd_ne (ne_of_none h n)]; exact h, fun P h => tab_upd h fun ps z => (by rw [n] at z; cases z), fun b h => upd_free h⟩
theorem Ex.put {xs : List Addr} {H : Hp} {p : Addr} {u o : HO} (h0 : H p = some u) (nt : NoTb u) (m : p ∈ xs) : Ex xs H (upd H p o) :=
  ⟨fun b w nb h _ => by rw [upd_ne fun z => nb (by rw [z]; exact m)]; exact h, fun P h => tab_upd h fun ps z => (by rw [h0] at z; cases z; exact nt _ rfl), fun b h => upd_free h⟩
/-- an object of one's own, made on the way, may have changed -/
theorem Ex.own {xs : List Addr} {H H1 H' : Hp} {p : Addr} (n : H p = none) (e : Ex xs H H1) (a : Ex (p :: xs) H1 H') : Ex xs H H' :=
  ⟨fun b u nb h t => a.a b u (fun q => by
      rcases List.mem_cons.mp q with z | z
      · rw [z, n] at h; cases h
      · exact nb z) (e.a b u nb h t) t, fun P h => a.t P (e.t P h), fun b h => e.f b (a.f b h)⟩
theorem Ex.lst {xs : List Addr} {H H' : Hp} {p : Addr} {ys : List V} (a : Ex xs H H') (h : H p = some (.lst ys)) (n : p ∉ xs := by simp) : H' p = some (.lst ys) := a.a p _ n h nt_lst
theorem Ex.tup {xs : List Addr} {H H' : Hp} {p : Addr} {ys : List V} (a : Ex xs H H') (h : H p = some (.tup ys)) (n : p ∉ xs := by simp) : H' p = some (.tup ys) := a.a p _ n h nt_tup
theorem Ex.seqL {K : PySem.W.Frag} {xs : List Addr} {H H' : Hp} {p : Addr} {ys : List V} (a : Ex xs H H') (h : SqL K H p ys) (n : p ∉ xs := by simp) : SqL K H' p ys := by
  rcases h with (h | ⟨o, h⟩) | h
  · exact .inl (.inl (a.a p _ n h nt_lst))
  · exact .inl (.inr ⟨o, a.a p _ n h nt_frz⟩)
  · exact .inr h
theorem Ex.seqT {K : PySem.W.Frag} {xs : List Addr} {H H' : Hp} {p : Addr} {ys : List V} (a : Ex xs H H') (h : SqT K H p ys) (n : p ∉ xs := by simp) : SqT K H' p ys := by
  rcases h with (h | ⟨o, h⟩) | h
  · exact .inl (.inl (a.a p _ n h nt_tup))
  · exact .inl (.inr ⟨o, a.a p _ n h nt_frz⟩)
  · exact .inr h
theorem Ex.tabbed {xs : List Addr} {H H' : Hp} {P : Addr} (t : GxR.TabG H P) (k : GxR.Tabbed P H H') : Ex xs H H' := by
  obtain ⟨ps, e, _⟩ := t
  refine ⟨fun b o _ h nt => ?_, fun Q q => ?_, fun b h => ?_⟩
  · rw [k.2 b fun z => by rw [z, e] at h; cases h; exact nt _ rfl]; exact h
  · by_cases z : Q = P
    · rw [z]; exact k.1
    · obtain ⟨qs, h, r⟩ := q
      exact ⟨qs, by rw [k.2 Q z]; exact h, r⟩
  · by_cases z : b = P
    · obtain ⟨⟨qs, h', _⟩, _⟩ := k
      rw [z, h'] at h; cases h
    · rw [k.2 b z] at h; exact h

/-- a def whose code object is known: its generators' codes go into its own table -/
theorem okC {P : Program} {w : World} {K : PySem.W.Frag} {mg : Str → Option Value} {base : Heap} {x qual : Str} {st : Stmt} {f c : Addr} {N ps : List Str} {k : Nat} {sp : Sp}
    {oc : Value} {od an : Option Addr} {osl : Array (Option Value)} {kV doc pm ct : Value}
    (lk : K.lookup f = some ⟨oc, od, .func (PySem.W.fnOf x qual (defArgs st) (defBody st) (defScope st) .none kV doc pm an (.ref c) ct), osl⟩) (hc : PySem.W.codeIn K (.ref c) qual = true)
    (S : FnScope N ps (defScope st)) (len : ∀ vs H Q E, sp vs H Q E → vs.length = ps.length)
    (body : ∀ (A : Around) (outer : List Env) (s : Shared) (H : Hp) (vs : List V) (Q : VK) (E : XK), Room k (A.deeper (envOfC qual (defScope st) s.heap.objs.size f (.ref c))) → sp vs H Q E →
      ∃ t, PSs (cxOf CX0 P w K mg base N qual (defScope st) f (.ref c) A outer s H E).nox (defBody st) t ∧ t { nx := fun _ H' => Q .non H', rt := Q } (start N vs) H) :
    FnOk P w K mg base CX0 (k + 1) f (PySem.W.fnOf x qual (defArgs st) (defBody st) (defScope st) .none kV doc pm an (.ref c) ct) ps sp := by
  refine fn_of lk hc S len fun A outer s H vs Q E hr hsp => ?_
  obtain ⟨t, h, q⟩ := body A outer s H vs Q E hr hsp
  exact ⟨t, h.nox, q⟩
end Kk

namespace K01
open PySem PySem.Spec PyProof.Rows L2 Kk
/-! the text -/
def topS (i : Nat) : Stmt := PySem.Challenge.pw_wipeways_k01_names_and_boxes.main.body.getD i (.Pass ⟨0, 0, 0, 0⟩)
abbrev sName : Stmt := topS 4
abbrev sBox : Stmt := topS 5
abbrev sRec : Stmt := topS 6
theorem scName : FnScope ["thing"] ["thing"] (defScope sName) := ⟨rfl, rfl, rfl, by decide +kernel, rfl, by decide +kernel, by decide +kernel⟩
theorem scBox : FnScope ["thing", "record", "dot", "rest"] ["thing"] (defScope sBox) := ⟨rfl, rfl, rfl, by decide +kernel, rfl, by decide +kernel, by decide +kernel⟩
theorem scRec : FnScope ["box", "name"] ["box", "name"] (defScope sRec) := ⟨rfl, rfl, rfl, by decide +kernel, rfl, by decide +kernel, by decide +kernel⟩
/-! the mathematics -/
def abc : Str := Str.ofString "abcdefghijklmnopqrstuvwxyz"
def tongS : List Str := ["take", "ask", "number", "copy", "mix", "open", "tell", "wipe", "clear", "drop", "choose", "loop", "out", "risk", "fault", "call", "back", "def", "main"].map Str.ofString
def tongV : List V := tongS.map V.str
def allAbc (a : Str) : Bool := a.cps.toList.all fun c => decide (c ∈ abc.cps.toList)
def nameB (a : Str) : Bool := !inV (.str a) tongV && (decide ((1 : Int) ≤ (a.length : Int)) && decide ((a.length : Int) ≤ 8)) && allAbc a
def dotS : Str := Str.ofString "."
def boxB (a : Str) : Bool := nameB (Txt.partition a dotS).1 && (decide ((Txt.partition a dotS).2.1 = Str.ofString "") || nameB (Txt.partition a dotS).2.2)
def lawBox (a : Str) : Bool := decide ((Txt.split a dotS).length < 3) && (Txt.split a dotS).all nameB

theorem dot_tl : TL.tl dotS = [46] := by decide +kernel
theorem no_dot {a : Str} (h : nameB a = true) : 46 ∉ TL.tl a := fun hm => by
  have h2 : allAbc a = true := by
    unfold nameB at h
    cases h3 : allAbc a with
    | true => rfl
    | false => rw [h3, Bool.and_false] at h; cases h
  have h3 := List.all_eq_true.mp h2 46 hm
  have h4 : (decide (46 ∈ abc.cps.toList)) = false := by decide +kernel
  rw [h4] at h3; cases h3
theorem cut {s : Nat} (l : List Nat) (h : s ∈ l) : ∃ p q, l = p ++ s :: q ∧ s ∉ p := by
  induction l with
  | nil => cases h
  | cons x l ih =>
    by_cases e : s = x
    · exact ⟨[], l, by rw [e]; rfl, by simp⟩
    · obtain ⟨p, q, e2, n⟩ := ih (by rcases List.mem_cons.mp h with z | z; exact absurd z e; exact z)
      exact ⟨x :: p, q, by rw [e2]; rfl, fun z => by rcases List.mem_cons.mp z with z | z; exact e z; exact n z⟩
theorem split_tl (a : Str) : (Txt.split a dotS).map TL.tl = TL.spl [46] 0 [] (TL.tl a) := by
  have h := TL.split_spl a dotS (by rw [dot_tl]; simp) (TL.kind_ok (by decide +kernel))
  rw [dot_tl] at h; exact h
theorem split_none {a : Str} (h : 46 ∉ TL.tl a) : Txt.split a dotS = [a] := by
  refine TL.map_tl_inj ?_
  rw [split_tl, TL.spl_last1 h]; rfl
theorem split_cut {a p q : Str} (e : TL.tl a = TL.tl p ++ 46 :: TL.tl q) (h : 46 ∉ TL.tl p) : Txt.split a dotS = p :: Txt.split q dotS := by
  refine TL.map_tl_inj ?_
  rw [split_tl, e, List.map_cons, split_tl]
  exact TL.spl_part1 h
theorem split_two {q : Str} (h : 46 ∈ TL.tl q) : 2 ≤ (Txt.split q dotS).length := by
  obtain ⟨l, r, e, n⟩ := cut _ h
  have e1 : TL.tl (⟨l.toArray⟩ : Str) = l := by simp [TL.tl]
  have e2 : TL.tl (⟨r.toArray⟩ : Str) = r := by simp [TL.tl]
  rw [split_cut (p := ⟨l.toArray⟩) (q := ⟨r.toArray⟩) (by rw [e1, e2]; exact e) (by rw [e1]; exact n)]
  rw [List.length_cons]
  have : 1 ≤ (Txt.split (⟨r.toArray⟩ : Str) dotS).length := by
    by_cases h2 : 46 ∈ r
    · obtain ⟨l2, r2, e', n'⟩ := cut _ h2
      have e3 : TL.tl (⟨l2.toArray⟩ : Str) = l2 := by simp [TL.tl]
      have e4 : TL.tl (⟨r2.toArray⟩ : Str) = r2 := by simp [TL.tl]
      rw [split_cut (p := ⟨l2.toArray⟩) (q := ⟨r2.toArray⟩) (by rw [e2, e3, e4]; exact e') (by rw [e3]; exact n')]
      simp
    · rw [split_none (by rw [e2]; exact h2)]; simp
  omega
theorem empty_name : nameB (Str.ofString "") = false := by decide +kernel
/-- both ways to read a box are one -/
theorem box_eq (a : Str) : boxB a = lawBox a := by
  by_cases h : 46 ∈ TL.tl a
  · obtain ⟨l, r, e, n⟩ := cut _ h
    have e1 : TL.tl (⟨l.toArray⟩ : Str) = l := by simp [TL.tl]
    have e2 : TL.tl (⟨r.toArray⟩ : Str) = r := by simp [TL.tl]
    have ea : a = (⟨l.toArray⟩ : Str) ++ dotS ++ (⟨r.toArray⟩ : Str) := by
      refine TL.ext_tl ?_
      rw [TL.tl_append, TL.tl_append, e1, e2, dot_tl, e]; simp
    have ep : Txt.partition a dotS = (⟨l.toArray⟩, dotS, ⟨r.toArray⟩) := by
      rw [ea]; exact TL.partition_app dot_tl (by rw [e1]; exact n)
    have es : Txt.split a dotS = (⟨l.toArray⟩ : Str) :: Txt.split ⟨r.toArray⟩ dotS := split_cut (by rw [e1, e2]; exact e) (by rw [e1]; exact n)
    unfold boxB lawBox
    rw [ep, es]
    have d0 : decide (dotS = Str.ofString "") = false := by decide +kernel
    show (nameB ⟨l.toArray⟩ && (decide (dotS = Str.ofString "") || nameB ⟨r.toArray⟩)) = _
    rw [d0, Bool.false_or, List.all_cons]
    by_cases h2 : 46 ∈ TL.tl (⟨r.toArray⟩ : Str)
    · have f1 : nameB ⟨r.toArray⟩ = false := by
        cases q : nameB ⟨r.toArray⟩ with
        | false => rfl
        | true => exact absurd h2 (no_dot q)
      have f2 := split_two h2
      rw [f1, Bool.and_false, decide_eq_false (by rw [List.length_cons]; omega), Bool.false_and]
    · rw [split_none h2]
      simp
  · have ep : Txt.partition a dotS = (a, Str.empty, Str.empty) := TL.partition_none dot_tl h
    unfold boxB lawBox
    rw [ep, split_none h]
    have d0 : decide (Str.empty = Str.ofString "") = true := by decide +kernel
    show (nameB a && (decide (Str.empty = Str.ofString "") || nameB Str.empty)) = _
    rw [d0]; simp
end K01

namespace K01
open PySem PySem.Spec PyProof.Rows L2 Kk
/-- what the module has at its names -/
structure Mg (K : PySem.W.Frag) (mg : Str → Option Value) (tA : Addr) : Prop where
  isinstance : mg "isinstance" = none
  str : mg "str" = none
  len : mg "len" = none
  all : mg "all" = none
  tongue : mg "TONGUE" = some (.ref tA)
  tongueT : ∀ H, SqT K H tA tongV
  most : ∃ t, mg "MOST_LETTERS" = some (.int 8 t)
  letters : ∃ t, mg "LETTERS" = some (.str abc t)
section
variable {P : Program} {w : World} {K : PySem.W.Frag} {mg : Str → Option Value} {base : Heap}

/-- a thing that is no text -/
def NoStr (K : PySem.W.Frag) (H : Hp) (v : V) : Prop := ∃ t : String, TyX K H v (.type t) ∧ kitB t "str" = some false
def spName (K : PySem.W.Frag) (T : Addr) : Sp := fun vs H Q _ => ∃ v, vs = [v] ∧ GxR.TabG H T ∧
  ((∃ a : Str, v = .str a ∧ a.length ≤ 1000 ∧ ∀ H', Ex [] H H' → Q (.bl (nameB a)) H') ∨ (NoStr K H v ∧ Q (.bl false) H))
theorem len_line {a : Str} (h : a.length ≤ 1000) : a.length ≤ sizeLine := Nat.le_trans h (by decide)
theorem flat_tong : tongV.all flatV = true := by decide +kernel
theorem name_split (a : Str) (h1 : inV (.str a) tongV = false) : nameB a = (decide ((1 : Int) ≤ (a.length : Int)) && decide ((a.length : Int) ≤ 8) && allAbc a) := by
  unfold nameB; rw [h1]; rfl

theorem ok_name {f c T tA : Addr} {k : Nat} {oc : Value} {od an : Option Addr} {osl : Array (Option Value)} {kV doc pm ct : Value}
    (lk : K.lookup f = some ⟨oc, od, .func (PySem.W.fnOf "is_name" "is_name" (defArgs sName) (defBody sName) (defScope sName) .none kV doc pm an (.ref c) ct), osl⟩) (hc : PySem.W.codeIn K (.ref c) "is_name" = true)
    (tab : GxR.TabB base mg c T) (M : Mg K mg tA) (gls : base.Ns mainGlobals mg) :
    FnOk P w K mg base CX0 (k + 1) f (PySem.W.fnOf "is_name" "is_name" (defArgs sName) (defBody sName) (defScope sName) .none kV doc pm an (.ref c) ct) ["thing"] (spName K T) := by
  obtain ⟨tm, gm⟩ := M.most
  obtain ⟨tl, gl⟩ := M.letters
  refine okC lk hc scName (fun vs H Q E h => ?_) (fun A outer s H vs Q E hr h => ?_)
  · obtain ⟨v, rfl, _⟩ := h; rfl
  · obtain ⟨v, rfl, hT, h⟩ := h
    refine ⟨_, pss_cons (ps_if (PW.pt (pw_or (pt_not (pt_val (pe_callB call_isi (by rfl) M.isinstance (by decide +kernel) (pa_cons (pv 0) (pa_cons (pe_bltn (v := .ty "str") (by rfl) M.str (by decide +kernel) rfl) pa_nil)))))
        (pw_or1 (pt_cmpR op_in_seq (pv 0) (pe_glob (v := .ref tA) rfl M.tongue rfl) rfl)))) (pss_one (ps_ret pe_bl)) pss_nil)
      (pss_one (ps_ret (pe_and (pe_chain op_le op_le pe_int (pe_callB call_len_str (by rfl) M.len PySem.boot_len (pa_cons (pv 0) pa_nil)) (pe_glob (v := .int 8) rfl gm ⟨_, rfl⟩))
        (pe_one (pe_allB hr (by rfl) M.all tab rfl ⟨rfl, rfl, by decide +kernel, rfl, rfl, fun y hy e => absurd e ((by decide +kernel : ∀ y ∈ [(Str.ofString ".0", NameKind.local), (Str.ofString "sign", NameKind.local), (Str.ofString "LETTERS", NameKind.globalImplicit)], y.2 ≠ NameKind.free) y hy)⟩ (pv 0) (elt_in gls rfl rfl rfl gl) (fun _ => rfl)))))), ?_⟩
    rcases h with ⟨a, rfl, ha, q⟩ | ⟨⟨t, ht, hk⟩, q⟩
    · refine ⟨.str a, rfl, .str a, .ty "str", .type "str", .type "str", true, rfl, .ty "str", .base (.str a), kit_ty (by decide +kernel), true, rfl, iteF ?_⟩
      refine ⟨.str a, rfl, tA, tongV, rfl, .inr (M.tongueT _), rfl, flat_tong, _, rfl, ite2 (fun e => ?_) (fun e => ?_)⟩
      · have e2 : inV (.str a) tongV = true := e
        have e3 : nameB a = false := by unfold nameB; rw [e2]; rfl
        have q2 := q H .refl
        rw [e3] at q2; exact q2
      · have e2 : inV (.str a) tongV = false := by cases z : inV (.str a) tongV with | false => rfl | true => exact absurd z e
        refine ⟨.str a, rfl, a, rfl, len_line ha, 1, (a.length : Int), rfl, rfl, _, rfl, ite2 (fun e4 => ?_) (fun e4 => ?_)⟩
        · refine ⟨_, 8, rfl, rfl, _, rfl, ite2 (fun e5 => ?_) (fun e5 => ?_)⟩
          · refine ⟨.str a, rfl, a, rfl, hT, fun H2 hH => ?_⟩
            have q2 := q H2 (.tabbed hT hH)
            rw [name_split a e2, e4, e5] at q2
            exact q2
          · have q2 := q H .refl
            have e6 : decide ((a.length : Int) ≤ 8) = false := by cases z : decide ((a.length : Int) ≤ 8) with | false => rfl | true => exact absurd z e5
            rw [name_split a e2, e6, Bool.and_false, Bool.false_and] at q2
            exact q2
        · have q2 := q H .refl
          have e6 : decide ((1 : Int) ≤ (a.length : Int)) = false := by cases z : decide ((1 : Int) ≤ (a.length : Int)) with | false => rfl | true => exact absurd z e4
          rw [name_split a e2, e6, Bool.false_and, Bool.false_and] at q2
          exact ⟨false, rfl, iteF q2⟩
    · refine ⟨v, rfl, v, .ty "str", .type t, .type "str", false, rfl, .ty "str", ht, kit_ty hk, false, rfl, iteT (iteT q)⟩
end
end K01

namespace K01
open PySem PySem.Spec PyProof.Rows L2 Kk
theorem part_len (a : Str) : (Txt.partition a dotS).1.length ≤ a.length ∧ (Txt.partition a dotS).2.2.length ≤ a.length := by
  by_cases h : 46 ∈ TL.tl a
  · obtain ⟨l, r, e, n⟩ := cut _ h
    have e1 : TL.tl (⟨l.toArray⟩ : Str) = l := by simp [TL.tl]
    have e2 : TL.tl (⟨r.toArray⟩ : Str) = r := by simp [TL.tl]
    have ea : a = (⟨l.toArray⟩ : Str) ++ dotS ++ (⟨r.toArray⟩ : Str) := by
      refine TL.ext_tl ?_
      rw [TL.tl_append, TL.tl_append, e1, e2, dot_tl, e]; simp
    have ep : Txt.partition a dotS = (⟨l.toArray⟩, dotS, ⟨r.toArray⟩) := by
      rw [ea]; exact TL.partition_app dot_tl (by rw [e1]; exact n)
    rw [ep]
    have el := congrArg List.length e
    rw [List.length_append, List.length_cons] at el
    rw [TL.len_tl a, TL.len_tl, TL.len_tl, e1, e2]
    omega
  · have ep : Txt.partition a dotS = (a, Str.empty, Str.empty) := TL.partition_none dot_tl h
    rw [ep]
    exact ⟨Nat.le_refl _, Nat.zero_le _⟩
theorem pre_ex {S L : List Nat} (h : TL.pre S L = true) : ∃ r, L = S ++ r := by
  have e : L.take S.length = S := eq_of_beq h
  refine ⟨L.drop S.length, ?_⟩
  have e2 := List.take_append_drop S.length L
  rw [e] at e2
  exact e2.symm
theorem sep_inj {s : Nat} : ∀ {p p' q q' : List Nat}, p ++ s :: q = p' ++ s :: q' → s ∉ p → s ∉ p' → p = p'
  | [], [], _, _, _, _, _ => rfl
  | [], y :: p', _, _, e, _, n' => by
    have e1 := (List.cons.inj e).1
    exact absurd (by rw [e1]; simp) n'
  | x :: p, [], _, _, e, n, _ => by
    have e1 := (List.cons.inj e).1
    exact absurd (by rw [← e1]; simp) n
  | x :: p, y :: p', q, q', e, n, n' => by
    obtain ⟨e1, e2⟩ := List.cons.inj e
    rw [e1, sep_inj e2 (fun z => n (List.mem_cons_of_mem _ z)) fun z => n' (List.mem_cons_of_mem _ z)]
theorem starts_pre {x y : Str} : Txt.startswith x y = (decide (y.length ≤ x.length) && TL.pre (TL.tl y) (TL.tl x)) := by
  unfold Txt.startswith
  rw [PySem.StrLaws.subAt_eq, Nat.zero_add, List.drop_zero]
  unfold TL.pre
  rw [← TL.len_tl y]
theorem starts_rec {x y z : Str} (hx : 46 ∉ TL.tl x) (hz : 46 ∉ TL.tl z) : Txt.startswith (x ++ dotS ++ y) (z ++ dotS) = decide (x = z) := by
  by_cases e : x = z
  · subst e
    rw [decide_eq_true rfl, starts_pre, TL.tl_append (x ++ dotS) y]
    have l1 : (x ++ dotS).length ≤ (x ++ dotS ++ y).length := by
      rw [TL.len_tl, TL.len_tl (x ++ dotS ++ y), TL.tl_append (x ++ dotS) y, List.length_append]; omega
    rw [decide_eq_true l1, Bool.true_and]
    exact TL.pre_self _ _
  · rw [decide_eq_false e]
    cases h : Txt.startswith (x ++ dotS ++ y) (z ++ dotS) with
    | false => rfl
    | true =>
      rw [starts_pre, Bool.and_eq_true] at h
      obtain ⟨r, hr⟩ := pre_ex h.2
      rw [TL.tl_append, TL.tl_append, TL.tl_append, dot_tl, List.append_assoc, List.append_assoc] at hr
      exact absurd (TL.ext_tl (sep_inj hr hx hz)) e
theorem starts_one {x z : Str} (hx : 46 ∉ TL.tl x) : Txt.startswith x (z ++ dotS) = false := by
  cases h : Txt.startswith x (z ++ dotS) with
  | false => rfl
  | true =>
    rw [starts_pre, Bool.and_eq_true] at h
    obtain ⟨r, hr⟩ := pre_ex h.2
    rw [TL.tl_append, dot_tl] at hr
    exact absurd (by rw [hr]; simp) hx

section
variable {P : Program} {w : World} {K : PySem.W.Frag} {mg : Str → Option Value} {base : Heap}
def spBox (K : PySem.W.Frag) (T : Addr) : Sp := fun vs H Q _ => ∃ v, vs = [v] ∧ GxR.TabG H T ∧
  ((∃ a : Str, v = .str a ∧ a.length ≤ 1000 ∧ ∀ H', Ex [] H H' → Q (.bl (boxB a)) H') ∨ (NoStr K H v ∧ Q (.bl false) H))
theorem ok_box {f fN T tA : Addr} {fd fdN : FuncData} {k : Nat} (F : Fun K "is_box" "is_box" sBox f fd) (GN : FnOk P w K mg base CX0 (k + 1) fN fdN ["thing"] (spName K T)) (kN : PySem.W.keepIn K (.ref fN) = true)
    (bN : Binds K fdN ["thing"] []) (gN : mg "is_name" = some (.ref fN)) (M : Mg K mg tA) : FnOk P w K mg base CX0 (k + 2) f fd ["thing"] (spBox K T) := by
  refine F.ok scBox (fun vs H Q E h => ?_) (fun cdv A outer s H vs Q E hr h => ?_)
  · obtain ⟨v, rfl, _⟩ := h; rfl
  · obtain ⟨v, rfl, hT, h⟩ := h
    refine ⟨_, pss_cons (ps_if (pt_not (pt_val (pe_callB call_isi (by rfl) M.isinstance (by decide +kernel) (pa_cons (pv 0) (pa_cons (pe_bltn (v := .ty "str") (by rfl) M.str (by decide +kernel) rfl) pa_nil))))) (pss_one (ps_ret pe_bl)) pss_nil)
      (pss_cons (ps_asg (pe_partition (pv 0) pe_str) (pg_tup rfl (pgs_cons (pg_name (i := 1) scBox.nd rfl (.inl rfl)) (pgs_cons (pg_name (i := 2) scBox.nd rfl (.inl rfl)) (pgs_cons (pg_name (i := 3) scBox.nd rfl (.inl rfl)) pgs_nil)))))
      (pss_one (ps_ret (pe_and (pe_call GN hr (by rfl) gN kN bN .nil pass0 (pa_cons (pv 1) pa_nil)) (pe_one (pe_or (pe_cmpR op_eq (pv 2) pe_str (nomark _)) (pe_one (pe_call GN hr (by rfl) gN kN bN .nil pass0 (pa_cons (pv 3) pa_nil))))))))), ?_⟩
    rcases h with ⟨a, rfl, ha, q⟩ | ⟨⟨t, ht, hk⟩, q⟩
    · refine ⟨.str a, rfl, .str a, .ty "str", .type "str", .type "str", true, rfl, .ty "str", .base (.str a), kit_ty (by decide +kernel), true, rfl, iteF ?_⟩
      refine ⟨.str a, rfl, ⟨a, rfl⟩, a, dotS, rfl, rfl, by decide +kernel, len_line ha, fun p np => ?_⟩
      obtain ⟨l1, l2⟩ := part_len a
      generalize e1 : (Txt.partition a dotS).1 = r1 at l1
      generalize e2 : (Txt.partition a dotS).2.1 = r2
      generalize e3 : (Txt.partition a dotS).2.2 = r3 at l2
      have eb : boxB a = (nameB r1 && (decide (r2 = Str.ofString "") || nameB r3)) := by unfold boxB; rw [e1, e2, e3]
      refine ⟨p, [.str r1, .str r2, .str r3], rfl, .inl (.inl upd_same), rfl, _, _, rfl, _, _, rfl, _, _, rfl, rfl, ?_⟩
      have x1 : Ex [] H (upd H p (.tup [.str r1, .str r2, .str r3])) := .new np
      refine ⟨.str r1, rfl, .str r1, rfl, x1.t _ hT, .inl ⟨r1, rfl, by omega, fun H1 y1 => ⟨_, rfl, ite2 (fun c1 => ?_) (fun c1 => ?_)⟩⟩⟩
      · refine ⟨.str r2, rfl, rfl, _, rfl, ite2 (fun c2 => ?_) (fun c2 => ?_)⟩
        · have q2 := q H1 (x1.trans y1)
          have c3 : r2 = Str.ofString "" := V.str.inj (of_decide_eq_true c2)
          rw [eb, c1, decide_eq_true c3] at q2
          exact q2
        · refine ⟨.str r3, rfl, .str r3, rfl, y1.t _ (x1.t _ hT), .inl ⟨r3, rfl, by omega, fun H2 y2 => ?_⟩⟩
          have q2 := q H2 ((x1.trans y1).trans y2)
          have c3 : decide (r2 = Str.ofString "") = false := decide_eq_false fun z => c2 (decide_eq_true (congrArg V.str z))
          rw [eb, c1, c3, Bool.true_and, Bool.false_or] at q2
          exact q2
      · have q2 := q H1 (x1.trans y1)
        have c3 : nameB r1 = false := by cases z : nameB r1 with | false => rfl | true => exact absurd z c1
        rw [eb, c3, Bool.false_and] at q2
        exact q2
    · exact ⟨v, rfl, v, .ty "str", .type t, .type "str", false, rfl, .ty "str", ht, kit_ty hk, false, rfl, iteT q⟩
def spRec : Sp := fun vs H Q _ => ∃ a b : Str, vs = [.str a, .str b] ∧ b.length ≤ 1000 ∧ Q (.bl (Txt.startswith a (b ++ dotS))) H
theorem ok_rec {f : Addr} {fd : FuncData} {k : Nat} (F : Fun K "in_record" "in_record" sRec f fd) : FnOk P w K mg base CX0 (k + 1) f fd ["box", "name"] spRec := by
  refine F.ok scRec (fun vs H Q E h => ?_) (fun cdv A outer s H vs Q E hr h => ?_)
  · obtain ⟨a, b, rfl, _⟩ := h; rfl
  · obtain ⟨a, b, rfl, hb, q⟩ := h
    refine ⟨_, pss_one (ps_ret (pe_m1 PySem.F.slot_str_startswith PySem.F.type_str_startswith mt_startswith (pv 0) (pe_op op_add_str (pv 1) pe_str))), ?_⟩
    refine ⟨.str a, rfl, ⟨a, rfl⟩, .str b, rfl, b, dotS, rfl, rfl, ?_, a, b ++ dotS, rfl, rfl, q⟩
    have e : dotS.length = 1 := by decide +kernel
    rw [e]; exact Nat.le_trans (Nat.add_le_add_right hb 1) (by decide)
end
end K01

namespace K01
open PySem PySem.Spec PyProof.Rows L2 Kk
abbrev sDeck : Stmt := topS 8
abbrev sDraw : Stmt := topS 9
theorem scDeck : FnScope ["_law_script", "_law_k", "_law_cell"] ["_law_script", "_law_k"] (defScope sDeck) := ⟨rfl, rfl, rfl, by decide +kernel, rfl, by decide +kernel, by decide +kernel⟩
theorem scDraw : FnScope ["_law_deck_here", "_law_many", "_law_got", "_law_number"] ["_law_deck_here", "_law_many"] (defScope sDraw) := ⟨rfl, rfl, rfl, by decide +kernel, rfl, by decide +kernel, by decide +kernel⟩
/-- a deck, at most n draws by its counter -/
def Deck (H : Hp) (d : Addr) (n : Nat) : Prop := ∃ a b c : Int, H d = some (.lst [.int a, .int b, .int c]) ∧ 0 ≤ a ∧ 0 ≤ b ∧ b < 2147483647 ∧ 0 ≤ c ∧ c ≤ (n : Int)
theorem Deck.ex {H H' : Hp} {d : Addr} {n : Nat} {xs : List Addr} (h : Deck H d n) (e : Ex xs H H') (m : d ∉ xs) : Deck H' d n := by
  obtain ⟨a, b, c, h, r⟩ := h
  exact ⟨a, b, c, e.lst h m, r⟩
theorem Deck.mono {H : Hp} {d : Addr} {n m : Nat} (h : Deck H d n) (e : n ≤ m) : Deck H d m := by
  obtain ⟨a, b, c, h, r1, r2, r3, r4, r5⟩ := h
  exact ⟨a, b, c, h, r1, r2, r3, r4, by omega⟩
theorem Deck.some {H : Hp} {d : Addr} {n : Nat} (h : Deck H d n) : ∃ xs, H d = some (.lst xs) := let ⟨_, _, _, h, _⟩ := h; ⟨_, h⟩
theorem atN {α : Type} {xs : List α} {j : Nat} {v : α} (h : xs[j]? = some v) : atI xs (j : Int) = some v := atI_nat h
section
variable {P : Program} {w : World} {K : PySem.W.Frag} {mg : Str → Option Value} {base : Heap}
def spDeck (K : PySem.W.Frag) : Sp := fun vs H Q _ => ∃ (s : Addr) (ns : List Int) (k : Nat), vs = [.ref s, .int k] ∧ SqL K H s (ns.map V.int) ∧
  ∀ H' p, H p = none → Ex [] H H' → Deck H' p 0 → Q (.ref p) H'
theorem ok_deck {f : Addr} {fd : FuncData} {k : Nat} (F : Fun K "_law_deck" "_law_deck" sDeck f fd) (ml : mg "len" = none) (mi : mg "int" = none) : FnOk P w K mg base CX0 (k + 1) f fd ["_law_script", "_law_k"] (spDeck K) := by
  refine F.ok scDeck (fun vs H Q E h => ?_) (fun cdv A outer s H vs Q E hr h => ?_)
  · obtain ⟨s, ns, k, rfl, _⟩ := h; rfl
  · obtain ⟨s, ns, k, rfl, hS, q⟩ := h
    refine ⟨_, pss_cons (ps_set (i := 2) scDeck.nd rfl (.inl rfl) pe_int)
      (pss_cons (ps_if (pt_cmpR op_lt (pv 1) (pe_callB call_len_seq (by rfl) ml PySem.boot_len (pa_cons (pv 0) pa_nil)) (nomark _)) (pss_one (ps_set (i := 2) scDeck.nd rfl (.inl rfl) (pe_ix ix_list (pv 0) (pv 1) (fun _ _ => rfl)))) pss_nil)
      (pss_one (ps_ret (pe_lst (pa_cons (pe_op op_mul (pv 2) (pe_callTy call_int1 (by rfl) mi (by decide +kernel) (pa_cons (pe_cmpR op_ge (pv 2) (pe_op op_pow pe_int pe_int) (nomark _)) pa_nil)))
        (pa_cons (pe_op op_mod (pv 2) pe_int) (pa_cons pe_int pa_nil))))))), ?_⟩
    have fin : ∀ (z : Int) (p : Addr) (i : Bool), H p = none → (i = true → 0 ≤ z) → Q (.ref p) (upd H p (.lst [.int (z * if i = true then 1 else 0), .int (z % 2147483647), .int 0])) := fun z p i np hi =>
      q _ p np (.new np) ⟨_, _, _, upd_same, by cases i with | false => simp | true => (have := hi rfl; simp; exact this), Int.emod_nonneg _ (by decide), Int.emod_lt_of_pos _ (by decide), by decide, by decide⟩
    refine ⟨.int k, rfl, .ref s, rfl, s, _, rfl, .inl hS, _, _, rfl, rfl, _, rfl, ite2 (fun e => ?_) (fun e => ?_)⟩
    · have e1 : k < ns.length := by
        have e2 := of_decide_eq_true e
        rw [List.length_map] at e2; omega
      have e3 : (ns.map V.int)[k]? = some (.int ns[k]) := by rw [List.getElem?_map, List.getElem?_eq_getElem e1]; rfl
      refine ⟨.ref s, rfl, .int k, rfl, s, _, _, _, rfl, rfl, hS, atN e3, ?_⟩
      refine ⟨.int ns[k], rfl, .int ns[k], rfl, 10, 18, rfl, rfl, ⟨by decide, by decide, by decide⟩, ns[k], _, rfl, rfl, .inr ⟨_, rfl, ns[k], _, rfl, rfl, .inr ?_, .int ns[k], rfl, ns[k], _, rfl, rfl, (by show (0 : Int) < 2147483647; decide), (by show 3 ≤ sizeLine; decide), fun p np => fin _ p _ np ?_⟩⟩
      · split <;> decide
      · intro e5
        have e6 := of_decide_eq_true e5
        exact Int.le_trans (by decide) e6
    · refine ⟨.int 0, rfl, .int 0, rfl, 10, 18, rfl, rfl, ⟨by decide, by decide, by decide⟩, 0, _, rfl, rfl, .inr ⟨_, rfl, 0, _, rfl, rfl, .inl (by decide), .int 0, rfl, 0, _, rfl, rfl, (by show (0 : Int) < 2147483647; decide), (by show 3 ≤ sizeLine; decide), fun p np => fin _ p _ np (fun _ => Int.le_refl _)⟩⟩
def spDraw : Sp := fun vs H Q _ => ∃ (d : Addr) (m : Int) (n : Nat), vs = [.ref d, .int m] ∧ Deck H d n ∧ n ≤ 1000000 ∧ 0 < m ∧ m < 1000000 ∧
  ∀ H' v, 0 ≤ v → v < m → Ex [d] H H' → Deck H' d (n + 1) → Q (.int v) H'
theorem ok_draw {f : Addr} {fd : FuncData} {k : Nat} (F : Fun K "_law_draw" "_law_draw" sDraw f fd) : FnOk P w K mg base CX0 (k + 1) f fd ["_law_deck_here", "_law_many"] spDraw := by
  refine F.ok scDraw (fun vs H Q E h => ?_) (fun cdv A outer s H vs Q E hr h => ?_)
  · obtain ⟨d, m, n, rfl, _⟩ := h; rfl
  · obtain ⟨d, m, n, rfl, ⟨a, b, c, hd, ha, hb, hb2, hc, hc2⟩, hn, hm, hm2, q⟩ := h
    refine ⟨_, pss_cons (ps_if (pt_cmpR op_gt (pe_ix ix_list (pv 0) pe_int (fun _ _ => rfl)) pe_int (nomark _))
        (pss_cons (ps_set (i := 2) scDraw.nd rfl (.inl rfl) (pe_op op_mod (pe_ix ix_list (pv 0) pe_int (fun _ _ => rfl)) (pv 1)))
        (pss_cons (ps_asg (pe_op op_fdiv (pe_ix ix_list (pv 0) pe_int (fun _ _ => rfl)) (pv 1)) (pg_sub (pv 0) pe_int set_list))
        (pss_one (ps_ret (pv 2))))) pss_nil)
      (pss_cons (ps_asg (pe_op op_add (pe_ix ix_list (pv 0) pe_int (fun _ _ => rfl)) pe_int) (pg_sub (pv 0) pe_int set_list))
      (pss_cons (ps_set (i := 3) scDraw.nd rfl (.inl rfl) (pe_op op_mod (pe_op op_mul (pe_op op_add (pe_op op_add (pe_ix ix_list (pv 0) pe_int (fun _ _ => rfl)) (pe_op op_mul (pe_op op_mul pe_int (pe_ix ix_list (pv 0) pe_int (fun _ _ => rfl))) (pe_ix ix_list (pv 0) pe_int (fun _ _ => rfl)))) pe_int) pe_int) pe_int))
      (pss_one (ps_ret (pe_op op_mod (pe_op op_fdiv (pe_op op_mod (pe_op op_mul (pv 3) (pe_op op_add (pv 3) pe_int)) pe_int) pe_int) (pv 1)))))), ?_⟩
    have hL : SqL K H d [.int a, .int b, .int c] := .of hd
    refine ⟨.ref d, rfl, d, _, 0, .int a, rfl, rfl, hL, rfl, a, 0, rfl, rfl, _, rfl, ite2 (fun e => ?_) (fun e => ?_)⟩
    · refine ⟨.ref d, rfl, d, _, 0, .int a, rfl, rfl, hL, rfl, .int m, rfl, a, m, rfl, rfl, hm, ?_⟩
      refine ⟨.ref d, rfl, d, _, 0, .int a, rfl, rfl, hL, rfl, .int m, rfl, a, m, rfl, rfl, ⟨hm, by omega⟩, .ref d, rfl, d, _, 0, 0, rfl, rfl, hd, rfl, .int (a % m), rfl, ?_⟩
      exact q _ _ (Int.emod_nonneg _ (by omega)) (Int.emod_lt_of_pos _ hm) (.put hd nt_lst (by simp)) ⟨_, b, c, upd_same, Int.ediv_nonneg ha (by omega), hb, hb2, hc, by omega⟩
    · have x1 : Ex [d] H (upd H d (.lst [.int a, .int b, .int (c + 1)])) := .put hd nt_lst (by simp)
      have hL2 : SqL K (upd H d (.lst [.int a, .int b, .int (c + 1)])) d [.int a, .int b, .int (c + 1)] := .of upd_same
      refine ⟨.ref d, rfl, d, _, 2, .int c, rfl, rfl, hL, rfl, c, 1, rfl, rfl, .ref d, rfl, d, _, 2, 2, rfl, rfl, hd, rfl, ?_⟩
      refine ⟨.ref d, rfl, d, _, 1, .int b, rfl, rfl, hL2, rfl, .ref d, rfl, d, _, 2, .int (c + 1), rfl, rfl, hL2, rfl, 7919, c + 1, rfl, rfl, .inl ⟨by decide, by decide⟩, .ref d, rfl, d, _, 2, .int (c + 1), rfl, rfl, hL2, rfl,
        _, c + 1, rfl, rfl, .inr ⟨by omega, by omega⟩, b, _, rfl, rfl, _, 31, rfl, rfl, _, 48271, rfl, rfl, .inr ⟨by decide, by decide⟩, _, 2147483647, rfl, rfl, (by show (0 : Int) < 2147483647; decide), ?_⟩
      have z1 : 0 ≤ (b + 7919 * (c + 1) * (c + 1) + 31) * 48271 % 2147483647 := Int.emod_nonneg _ (by decide)
      have z2 : (b + 7919 * (c + 1) * (c + 1) + 31) * 48271 % 2147483647 < 2147483647 := Int.emod_lt_of_pos _ (by decide)
      refine ⟨_, rfl, _, rfl, _, 69621, rfl, rfl, _, _, rfl, rfl, .inl ⟨Int.lt_of_lt_of_le (by decide) z1, Int.lt_trans z2 (by decide)⟩, _, 2147483629, rfl, rfl, (by show (0 : Int) < 2147483629; decide), _, 8, rfl, rfl, ⟨by decide, by decide⟩, .int m, rfl, _, m, rfl, rfl, hm, ?_⟩
      exact q _ _ (Int.emod_nonneg _ (by omega)) (Int.emod_lt_of_pos _ hm) x1 ⟨a, b, c + 1, upd_same, ha, hb, hb2, by omega, by omega⟩
end
end K01

namespace Kk
open PySem PySem.Spec PyProof.Rows L2
theorem op_mul_str {X : Cx} : OpR X (binaryOp .Mult) (fun x y H Q => ∃ z n, x = .str z ∧ y = .int n ∧ MulOk z n ∧ Q (.str (Txt.mul z n)) H) := by
  intro pins s σ H x y v u Q I rx ry h
  obtain ⟨z, n, rfl, rfl, ok, q⟩ := h
  obtain ⟨t, rfl⟩ := rx
  obtain ⟨t', rfl⟩ := ry
  exact SB.mul ok fun t2 k => ⟨.str _, H, I.tok k, ⟨_, rfl⟩, q⟩
end Kk
namespace K01
open PySem PySem.Spec PyProof.Rows L2 Kk
abbrev sNames : Stmt := topS 10
abbrev sTongue : Stmt := topS 11
theorem scNames : FnScope ["_law_deck_here", "_law_many", "_law_letters", "_law_k", "_law_base", "_law_at", "_law_first", "_law_longer", "_law_got"] ["_law_deck_here", "_law_many"] (defScope sNames) := ⟨rfl, rfl, rfl, by decide +kernel, rfl, by decide +kernel, by decide +kernel⟩
theorem scTongue : FnScope ["_law_text_here"] [] (defScope sTongue) := ⟨rfl, rfl, rfl, by decide +kernel, rfl, by decide +kernel, by decide +kernel⟩
/-- a text without a dot, not too long -/
def Nm (z : Str) : Prop := 46 ∉ TL.tl z ∧ z.length ≤ 100
/-- one small letter -/
def One (z : Str) : Prop := ∃ c, z = ⟨#[c]⟩ ∧ c ∈ abc.cps.toList
theorem abc_len : abc.length = 26 := by decide +kernel
theorem abc_at (v : Int) (h0 : 0 ≤ v) (h1 : v < 26) : ∃ c, atI abc.cps.toList v = some c ∧ c ∈ abc.cps.toList := by
  have hl : abc.cps.toList.length = 26 := by decide +kernel
  have h2 : v.toNat < abc.cps.toList.length := by omega
  refine ⟨abc.cps.toList[v.toNat], ?_, List.getElem_mem _⟩
  have := atI_nat (List.getElem?_eq_getElem h2)
  rwa [Int.toNat_of_nonneg h0] at this
theorem one_len {z : Str} (h : One z) : z.length = 1 := by obtain ⟨c, rfl, _⟩ := h; rfl
theorem ones_sum : ∀ {bs : List Str}, (∀ b ∈ bs, One b) → (bs.map (·.length)).sum = bs.length
  | [], _ => rfl
  | b :: bs, h => by
    rw [List.map_cons, List.sum_cons, ones_sum fun z hz => h z (List.mem_cons_of_mem _ hz), one_len (h b (List.mem_cons_self ..)), List.length_cons]; omega
theorem join_ones {bs : List Str} (h : ∀ b ∈ bs, One b) : 46 ∉ TL.tl (Txt.join (Str.ofString "") bs) ∧ (Txt.join (Str.ofString "") bs).length = bs.length := by
  rw [TL.join_eq, TL.len_tl, TL.tl_join]
  have e : TL.tl (Str.ofString "") = [] := by decide +kernel
  rw [e]
  induction bs with
  | nil => exact ⟨by simp [TL.joinL], rfl⟩
  | cons b r ih =>
    obtain ⟨c, hb, hc⟩ := h b (List.mem_cons_self ..)
    have e1 : TL.tl b = [c] := by rw [hb]
    have n1 : 46 ≠ c := fun z => by
      rw [← z] at hc
      exact absurd hc (by decide +kernel)
    have ih := ih fun z hz => h z (List.mem_cons_of_mem _ hz)
    cases r with
    | nil =>
      simp only [List.map_cons, List.map_nil, TL.joinL, e1]
      exact ⟨by simpa using n1, rfl⟩
    | cons b2 r2 =>
      simp only [List.map_cons, TL.joinL, e1, List.nil_append] at ih ⊢
      refine ⟨fun z => ?_, ?_⟩
      · rcases List.mem_append.mp z with z | z
        · exact n1 (List.mem_singleton.mp z)
        · exact ih.1 z
      · rw [List.length_append, ih.2, List.length_cons, List.length_cons, List.length_cons]; simp; omega
theorem mul01 {z : Str} {n : Int} (h0 : 0 ≤ n) (h1 : n ≤ 1) : MulOk z n ∧ (Txt.mul z n = Str.empty ∨ Txt.mul z n = z) := by
  have hc : n = 0 ∨ n = 1 := by omega
  rcases hc with rfl | rfl
  · refine ⟨⟨by decide, fun h => absurd (by decide) h, fun h => absurd (by decide) h⟩, .inl ?_⟩
    unfold Txt.mul; rw [if_pos (by decide)]
  · refine ⟨⟨by decide, fun _ h => ?_, fun _ h => ?_⟩, .inr ?_⟩
    · simp at h
    · simp at h
    · unfold Txt.mul; rw [if_neg (by decide), if_pos (by simp)]
theorem zs_ok {n : Int} (h0 : 0 ≤ n) (h1 : n ≤ 1) : 46 ∉ TL.tl (Txt.mul (Str.ofString "z") n) ∧ (Txt.mul (Str.ofString "z") n).length ≤ 1 := by
  rcases (mul01 (z := Str.ofString "z") h0 h1).2 with e | e <;> rw [e] <;> decide +kernel
theorem ixN_of {n : Nat} {i : Int} (h0 : 0 ≤ i) (h1 : i < n) : ixN n i = some i.toNat := by
  unfold ixN; rw [if_pos h0, if_pos h1]
theorem nm_add {a b : Str} (ha : 46 ∉ TL.tl a) (hb : 46 ∉ TL.tl b) : 46 ∉ TL.tl (a ++ b) := fun z => by
  rw [TL.tl_append] at z
  rcases List.mem_append.mp z with z | z
  · exact ha z
  · exact hb z
theorem len_add (a b : Str) : (a ++ b).length = a.length + b.length := by rw [TL.len_tl, TL.tl_append, List.length_append, ← TL.len_tl, ← TL.len_tl]
section
variable {P : Program} {w : World} {K : PySem.W.Frag} {mg : Str → Option Value} {base : Heap}
def spNames : Sp := fun vs H Q _ => ∃ (d : Addr) (m : Nat) (n : Nat), vs = [.ref d, .int m] ∧ Deck H d n ∧ n ≤ 1000 ∧ m ≤ 26 ∧
  ∀ H' p (ws : List Str), H p = none → Ex [d] H H' → Deck H' d (n + 10) → H' p = some (.lst (ws.map V.str)) → ws.length = m → (∀ z ∈ ws, Nm z) → Q (.ref p) H'
theorem ok_names {f fD : Addr} {fd fdD : FuncData} {k : Nat} (F : Fun K "_law_names" "_law_names" sNames f fd) (GD : FnOk P w K mg base CX0 (k + 1) fD fdD ["_law_deck_here", "_law_many"] spDraw) (kD : PySem.W.keepIn K (.ref fD) = true)
    (bD : Binds K fdD ["_law_deck_here", "_law_many"] []) (gD : mg "_law_draw" = some (.ref fD)) (ml : mg "len" = none) (mr : mg "range" = none) : FnOk P w K mg base CX0 (k + 2) f fd ["_law_deck_here", "_law_many"] spNames := by
  refine F.ok scNames (fun vs H Q E h => ?_) (fun cdv A outer s H vs Q E hr h => ?_)
  · obtain ⟨d, m, n, rfl, _⟩ := h; rfl
  · obtain ⟨d, m, n, rfl, hD, hn, hm, q⟩ := h
    refine ⟨_, pss_cons (ps_set (i := 2) scNames.nd rfl (.inr rfl) pe_str)
      (pss_cons (ps_setLc (i := 4) (own := [("_law_k", 3)]) (g := gName 3) (tt := tYes) rfl scNames.nd rfl rfl (sw_true rfl rfl rfl (by decide +kernel))
          (pi_range1 (by rfl) mr (pa_cons (pe_op op_add pe_int (pe_call GD hr (by rfl) gD kD bD .nil pass0 (pa_cons (pv 0) (pa_cons pe_int pa_nil)))) pa_nil))
          (blkOk_by (N := ["_law_deck_here", "_law_many", "_law_letters", "_law_k", "_law_base", "_law_at", "_law_first", "_law_longer", "_law_got"]) (sc := defScope sNames) (by decide +kernel))
          (fun _ _ _ _ _ => pg_name (i := 3) scNames.nd rfl (Or.inl rfl)) (fun _ _ _ _ _ => pts_nil)
          (fun _ _ _ _ _ => pe_ix ix_str (pv 2) (pe_call GD hr (by rfl) gD kD bD .nil pass0 (pa_cons (pv 0) (pa_cons pe_int pa_nil))) (fun _ _ => rfl)))
      (pss_cons (ps_set (i := 5) scNames.nd rfl (.inl rfl) (pe_call GD hr (by rfl) gD kD bD .nil pass0 (pa_cons (pv 0) (pa_cons (pe_callB call_len_seq (by rfl) ml PySem.boot_len (pa_cons (pv 4) pa_nil)) pa_nil))))
      (pss_cons (ps_set (i := 6) scNames.nd rfl (.inl rfl) (pe_call GD hr (by rfl) gD kD bD .nil pass0 (pa_cons (pv 0) (pa_cons pe_int pa_nil))))
      (pss_cons (ps_set (i := 7) scNames.nd rfl (.inl rfl) (pe_call GD hr (by rfl) gD kD bD .nil pass0 (pa_cons (pv 0) (pa_cons pe_int pa_nil))))
      (pss_cons (ps_set (i := 8) scNames.nd rfl (.inl rfl) (pe_lst pa_nil))
      (pss_cons (ps_for PassesOwn.never rfl (pi_range1 (by rfl) mr (pa_cons (pv 1) pa_nil)) (pg_name (i := 3) scNames.nd rfl (.inl rfl))
        (pss_cons (ps_asg (pe_ix ix_str (pv 2) (pe_op op_mod (pe_op op_add (pv 6) (pv 3)) pe_int) (fun _ _ => rfl)) (pg_sub (pv 4) (pv 5) set_list))
        (pss_one (ps_expr (pe_bm PySem.F.plainAttrs_list PySem.F.slot_list_append PySem.F.type_list_append mt_append (pv 8)
          (pa_cons (pe_op op_add_str (pe_op op_add_str pe_str (pe_join pe_str (pv 4))) (pe_op op_mul_str pe_str (pe_op op_mul (pe_op op_mod (pv 3) pe_int) (pv 7)))) pa_nil))))))
      (pss_one (ps_ret (pv 8))))))))), ?_⟩
    -- range(1 + draw(6))
    refine ⟨.ref d, rfl, d, 6, n, rfl, hD, by omega, by decide, by decide, fun H1 v hv0 hv1 x1 D1 => ?_⟩
    refine ⟨1, v, rfl, rfl, 1 + v, rfl, by omega, by omega, fun B nB => ?_⟩
    have nB0 : H B = none := x1.f B nB
    have dB : d ≠ B := fun z => by obtain ⟨_, q⟩ := D1.some; rw [z, nB] at q; cases q
    refine lc_range (lo := 0) (n := (1 + v).toNat) (fun i H2 => ∃ bs : List Str, H2 B = some (.lst (bs.map V.str)) ∧ bs.length = i ∧ (∀ b ∈ bs, One b) ∧ Ex [d] H H2 ∧ Deck H2 d (n + 1 + i)) ?_ ?_ ?_
    · exact ⟨[], upd_same, rfl, by simp, x1.trans (.new nB), D1.ex (.new nB (xs := [])) (by simp)⟩
    · intro i H2 hi ⟨bs, hB, hbl, hbs, x2, D2⟩
      refine ⟨rfl, ?_⟩
      refine ⟨.str abc, rfl, .ref d, rfl, d, 26, n + 1 + i, rfl, D2, by omega, by decide, by decide, fun H3 u hu0 hu1 x3 D3 => ?_⟩
      obtain ⟨c, hc1, hc2⟩ := abc_at u hu0 hu1
      refine ⟨abc, u, c, rfl, rfl, by decide, hc1, bs.map V.str, x3.lst hB (by simpa using dB.symm), by rw [List.length_map]; exact Nat.lt_of_le_of_lt (show bs.length ≤ 10 by omega) (by decide), ?_⟩
      refine ⟨bs ++ [⟨#[c]⟩], by rw [upd_same, List.map_append]; rfl, by rw [List.length_append, hbl]; rfl, fun b hb => ?_, ?_, D3.ex (.put (xs := [B]) (x3.lst hB (by simpa using dB.symm)) nt_lst (by simp)) (by simpa using dB)⟩
      · rcases List.mem_append.mp hb with z | z
        · exact hbs b z
        · exact ⟨c, List.mem_singleton.mp z, hc2⟩
      · exact Ex.own nB0 (x2.trans x3) (.put (x3.lst hB (by simpa using dB.symm)) nt_lst (by simp))
    · intro H2 ⟨bs, hB, hbl, hbs, x2, D2⟩
      have hl : 1 ≤ bs.length ∧ bs.length ≤ 6 := by omega
      refine ⟨.ref d, rfl, .ref B, rfl, B, _, rfl, .inl (.of hB), d, (bs.map V.str).length, n + 1 + 6, rfl, D2.mono (by omega), by omega, by rw [List.length_map]; omega, by rw [List.length_map]; omega, fun H3 at_ ha0 ha1 x3 D3 => ?_⟩
      refine ⟨.ref d, rfl, d, 26, n + 1 + 7, rfl, D3, by omega, by decide, by decide, fun H4 fi hf0 hf1 x4 D4 => ?_⟩
      refine ⟨.ref d, rfl, d, 2, n + 1 + 8, rfl, D4, by omega, by decide, by decide, fun H5 lo hl0 hl1 x5 D5 => ?_⟩
      refine ⟨Nat.zero_le _, fun G nG => ?_⟩
      have x25 : Ex [d] H H5 := ((x2.trans x3).trans x4).trans x5
      have nG0 : H G = none := x25.f G nG
      have hB5 : H5 B = some (.lst (bs.map V.str)) := x5.lst (x4.lst (x3.lst hB (by simpa using dB.symm)) (by simpa using dB.symm)) (by simpa using dB.symm)
      have GB : G ≠ B := (ne_of_none hB5 nG).symm
      have Gd : d ≠ G := fun z => by obtain ⟨_, q⟩ := D5.some; rw [z, nG] at q; cases q
      refine ⟨.int m, rfl, m, rfl, by omega, by omega, for_range (lo := 0) (n := (m : Int).toNat) (fun i σ H6 => ∃ (cs gs : List Str) (y : Option V), σ = [some (.ref d), some (.int m), some (.str abc), y, some (.ref B), some (.int at_), some (.int fi), some (.int lo), some (.ref G)] ∧
        H6 B = some (.lst (cs.map V.str)) ∧ cs.length = bs.length ∧ (∀ b ∈ cs, One b) ∧ H6 G = some (.lst (gs.map V.str)) ∧ gs.length = i ∧ (∀ z ∈ gs, Nm z) ∧ Ex [d] H H6 ∧ Deck H6 d (n + 10)) ?_ ?_ ?_⟩
      · refine ⟨bs, [], _, rfl, (Ex.new (xs := []) nG).lst hB5, rfl, hbs, upd_same, rfl, by simp, x25.trans (.new nG), (D5.ex (.new (xs := []) nG) (by simp)).mono (by omega)⟩
      · intro i σ H6 hi ⟨cs, gs, y, e, hc, hcl, hcs, hg, hgl, hgs, x6, D6⟩
        subst e
        have ai : at_ < (cs.map V.str).length := by rw [List.length_map, hcl]; rw [List.length_map] at ha1; exact ha1
        obtain ⟨c, hc1, hc2⟩ := abc_at ((fi + (0 + (i : Int))) % 26) (Int.emod_nonneg _ (by decide)) (Int.emod_lt_of_pos _ (by decide))
        refine ⟨.str abc, rfl, .int fi, rfl, .int (0 + (i : Int)), rfl, fi, _, rfl, rfl, _, 26, rfl, rfl, (by show (0 : Int) < 26; decide), abc, _, c, rfl, rfl, by decide, hc1, .ref B, rfl, .int at_, rfl, B, _, at_, at_.toNat, rfl, rfl, hc, ixN_of ha0 ai, ?_⟩
        rw [← List.map_set (f := V.str) (a := (⟨#[c]⟩ : Str))]
        generalize ecs : cs.set at_.toNat (⟨#[c]⟩ : Str) = cs'
        have cl' : cs'.length = bs.length := by rw [← ecs, List.length_set, hcl]
        have co' : ∀ b ∈ cs', One b := fun b hb => by
          rw [← ecs] at hb
          rcases List.mem_or_eq_of_mem_set hb with z | z
          · exact hcs b z
          · exact ⟨c, z, hc2⟩
        have x7 : Ex [B, d] H6 (upd H6 B (.lst (cs'.map V.str))) := .put hc nt_lst (by simp)
        have hB7 : (upd H6 B (.lst (cs'.map V.str))) B = some (.lst (cs'.map V.str)) := upd_same
        have hG7 : (upd H6 B (.lst (cs'.map V.str))) G = some (.lst (gs.map V.str)) := by rw [upd_ne GB]; exact hg
        have D7 : Deck (upd H6 B (.lst (cs'.map V.str))) d (n + 10) := D6.ex (.put (xs := [B]) hc nt_lst (by simp)) (by simpa using dB)
        have x07 : Ex [d] H (upd H6 B (.lst (cs'.map V.str))) := Ex.own nB0 x6 x7
        have r0 : 0 ≤ (0 + (i : Int)) % 2 := Int.emod_nonneg _ (by decide)
        have r1 : (0 + (i : Int)) % 2 < 2 := Int.emod_lt_of_pos _ (by decide)
        have m0 : 0 ≤ (0 + (i : Int)) % 2 * lo := Int.mul_nonneg r0 hl0
        have m1 : (0 + (i : Int)) % 2 * lo ≤ 1 := by
          have : (0 + (i : Int)) % 2 * lo ≤ 1 * 1 := Int.mul_le_mul (by omega) (by omega) hl0 (by decide)
          omega
        obtain ⟨j1, j2⟩ := join_ones co'
        obtain ⟨k1, k2⟩ := zs_ok m0 m1
        have q1 : (Str.ofString "q").length = 1 := by decide +kernel
        refine ⟨.ref G, rfl, .inl ⟨rfl, _, .of hG7⟩, ⟨_, rfl⟩, .ref B, rfl, _, B, cs', rfl, rfl, .inl (.of hB7), ?_, _, _, rfl, rfl, ?_, .int (0 + (i : Int)), rfl, _, 2, rfl, rfl, (by show (0 : Int) < 2; decide), .int lo, rfl, _, lo, rfl, rfl, .inr ⟨by omega, by omega⟩, _, _, rfl, rfl, (mul01 m0 m1).1, _, _, rfl, rfl, ?_, G, _, _, rfl, rfl, hG7, ?_, ?_⟩
        · rw [ones_sum co', cl', show (Str.ofString "").length = 0 by decide +kernel]; omega
        · rw [q1, j2, cl']; exact Nat.le_trans (show 1 + bs.length ≤ 10 by omega) (by decide)
        · rw [len_add, q1, j2, cl']; exact Nat.le_trans (show 1 + bs.length + _ ≤ 10 by omega) (by decide)
        · rw [List.length_map, hgl]; exact Nat.lt_of_le_of_lt (show i ≤ 100 by omega) (by decide)
        · refine ⟨cs', gs ++ [Str.ofString "q" ++ Txt.join (Str.ofString "") cs' ++ Txt.mul (Str.ofString "z") ((0 + (i : Int)) % 2 * lo)], _, rfl, by rw [upd_ne GB.symm]; exact hB7, cl', co', by rw [upd_same, List.map_append]; rfl, by rw [List.length_append, hgl]; rfl, fun z hz => ?_, Ex.own nG0 x07 (.put hG7 nt_lst (by simp)), D7.ex (.put (xs := [G]) hG7 nt_lst (by simp)) (by simpa using Gd)⟩
          rcases List.mem_append.mp hz with z1 | z1
          · exact hgs z z1
          · rw [List.mem_singleton.mp z1]
            refine ⟨nm_add (nm_add (by decide +kernel) j1) k1, ?_⟩
            rw [len_add, len_add, q1, j2, cl']; omega
      · intro σ H6 ⟨cs, gs, y, e, hc, hcl, hcs, hg, hgl, hgs, x6, D6⟩
        subst e
        exact ⟨.ref G, rfl, q H6 G gs nG0 x6 D6 hg (by omega) hgs⟩
end
end K01

namespace K01
open PySem PySem.Spec PyProof.Rows L2 Kk
abbrev sText : Stmt := topS 12
abbrev nText : List Str := ["_law_deck_here", "_law_letters", "_law_text_here", "_law_way", "_law_odd", "_law_at", "_law_k"]
theorem scText : FnScope nText ["_law_deck_here"] (defScope sText) := ⟨rfl, rfl, rfl, by decide +kernel, rfl, by decide +kernel, by decide +kernel⟩
theorem tong_split : (Txt.split (Str.ofString "take ask number copy mix open tell wipe clear drop choose loop out risk fault call back def main") (Str.ofString " ")) = tongS := by decide +kernel
theorem cut_len (z : Str) (lo hi : Option Int) : (cutS z lo hi).length ≤ z.length := by
  unfold cutS
  rw [TL.len_tl, TL.len_tl]
  show ((z.cps.toList.drop _).take _).length ≤ z.cps.toList.length
  rw [List.length_take, List.length_drop]; omega
theorem cut_nm {z : Str} (h : 46 ∉ TL.tl z) (lo hi : Option Int) : 46 ∉ TL.tl (cutS z lo hi) := fun m => by
  have m2 : 46 ∈ ((z.cps.toList.drop (HT.sIx z.length 0 lo)).take (HT.sIx z.length z.length hi - HT.sIx z.length 0 lo)) := m
  exact h (List.mem_of_mem_drop (List.mem_of_mem_take m2))
def odd : Str := Str.ofString "AZ09 _-.\n{@q"
theorem odd_at (v : Int) (h0 : 0 ≤ v) (h1 : v < odd.length) : ∃ c, atI odd.cps.toList v = some c := by
  have hl : v.toNat < odd.cps.toList.length := by rw [← TL.len_tl odd]; omega
  refine ⟨odd.cps.toList[v.toNat], ?_⟩
  have := atI_nat (List.getElem?_eq_getElem hl)
  rwa [Int.toNat_of_nonneg h0] at this
theorem tong_at (v : Int) (h0 : 0 ≤ v) (h1 : v < 19) : ∃ z : Str, atI tongV v = some (.str z) ∧ z.length ≤ 6 := by
  have hl : tongS.length = 19 := by decide +kernel
  have hv : v.toNat < tongS.length := by omega
  have ha : ∀ z ∈ tongS, z.length ≤ 6 := by decide +kernel
  refine ⟨tongS[v.toNat], ?_, ha _ (List.getElem_mem _)⟩
  have e : tongV[v.toNat]? = some (.str tongS[v.toNat]) := by
    show (tongS.map V.str)[v.toNat]? = _
    rw [List.getElem?_map, List.getElem?_eq_getElem hv]; rfl
  have := atI_nat e
  rwa [Int.toNat_of_nonneg h0] at this
section
variable {P : Program} {w : World} {K : PySem.W.Frag} {mg : Str → Option Value} {base : Heap}
def spTongue : Sp := fun vs H Q _ => vs = [] ∧ ∀ p, H p = none → Q (.ref p) (upd H p (.lst tongV))
theorem ok_tongue {f : Addr} {fd : FuncData} {k : Nat} (F : Fun K "_law_tongue" "_law_tongue" sTongue f fd) : FnOk P w K mg base CX0 (k + 1) f fd [] spTongue := by
  refine F.ok scTongue (fun vs H Q E h => ?_) (fun cdv A outer s H vs Q E hr h => ?_)
  · obtain ⟨rfl, _⟩ := h; rfl
  · obtain ⟨rfl, q⟩ := h
    refine ⟨_, pss_cons (ps_set (i := 0) scTongue.nd rfl (.inl rfl) pe_str) (pss_one (ps_ret (pe_split (pv 0) pe_str))), ?_⟩
    refine ⟨_, rfl, ⟨_, rfl⟩, _, _, rfl, rfl, by decide +kernel, by decide +kernel, fun p np => ?_⟩
    have q2 := q p np
    unfold tongV at q2
    rw [← tong_split] at q2
    exact q2
def spText : Sp := fun vs H Q _ => ∃ (d : Addr) (n : Nat), vs = [.ref d] ∧ Deck H d n ∧ n ≤ 1000 ∧
  ∀ H' (a : Str), a.length ≤ 30 → Ex [d] H H' → Deck H' d (n + 20) → Q (.str a) H'
theorem ok_text {f fD fT : Addr} {fd fdD fdT : FuncData} {k : Nat} (F : Fun K "_law_text" "_law_text" sText f fd) (GD : FnOk P w K mg base CX0 (k + 1) fD fdD ["_law_deck_here", "_law_many"] spDraw) (kD : PySem.W.keepIn K (.ref fD) = true)
    (bD : Binds K fdD ["_law_deck_here", "_law_many"] []) (gD : mg "_law_draw" = some (.ref fD)) (GT : FnOk P w K mg base CX0 (k + 1) fT fdT [] spTongue) (kT : PySem.W.keepIn K (.ref fT) = true) (bT : Binds K fdT [] []) (gT : mg "_law_tongue" = some (.ref fT))
    (ml : mg "len" = none) (mr : mg "range" = none) : FnOk P w K mg base CX0 (k + 2) f fd ["_law_deck_here"] spText := by
  refine F.ok scText (fun vs H Q E h => ?_) (fun cdv A outer s H vs Q E hr h => ?_)
  · obtain ⟨d, n, rfl, _⟩ := h; rfl
  · obtain ⟨d, n, rfl, hD, hn, q⟩ := h
    refine ⟨_, pss_cons (ps_set (i := 1) scText.nd rfl (.inr rfl) pe_str)
      (pss_cons (ps_set (i := 2) scText.nd rfl (.inl rfl) (pe_join pe_str (pe_lc (own := [("_law_k", 6)]) (g := gName 6) (tt := tYes) rfl scText.nd
          (pi_range1 (by rfl) mr (pa_cons (pe_ix ix_list (pe_lst (pa_cons pe_int (pa_cons pe_int (pa_cons pe_int (pa_cons pe_int (pa_cons pe_int (pa_cons pe_int (pa_cons pe_int (pa_cons pe_int pa_nil))))))))) (pe_call GD hr (by rfl) gD kD bD .nil pass0 (pa_cons (pv 0) (pa_cons pe_int pa_nil))) (fun _ _ => rfl)) pa_nil))
          (blkOk_by (N := nText) (sc := defScope sText) (by decide +kernel))
          (fun _ _ _ _ _ => pg_name (i := 6) scText.nd rfl (Or.inl rfl)) (fun _ _ _ _ _ => pts_nil)
          (fun _ _ _ _ _ => pe_ix ix_str (pv 1) (pe_call GD hr (by rfl) gD kD bD .nil pass0 (pa_cons (pv 0) (pa_cons pe_int pa_nil))) (fun _ _ => rfl)))))
      (pss_cons (ps_set (i := 3) scText.nd rfl (.inl rfl) (pe_call GD hr (by rfl) gD kD bD .nil pass0 (pa_cons (pv 0) (pa_cons pe_int pa_nil))))
      (pss_cons (ps_if (pt_cmpR op_eq (pv 3) pe_int (nomark _))
        (pss_cons (ps_set (i := 4) scText.nd rfl (.inl rfl) pe_str)
        (pss_cons (ps_set (i := 5) scText.nd rfl (.inl rfl) (pe_call GD hr (by rfl) gD kD bD .nil pass0 (pa_cons (pv 0) (pa_cons (pe_op op_add (pe_callB call_len_str (by rfl) ml PySem.boot_len (pa_cons (pv 2) pa_nil)) pe_int) pa_nil))))
        (pss_one (ps_set (i := 2) scText.nd rfl (.inl rfl) (pe_op op_add_str (pe_op op_add_str (pe_slice sl_str (pv 2) po_none (po_some (pv 5))) (pe_ix ix_str (pv 4) (pe_call GD hr (by rfl) gD kD bD .nil pass0 (pa_cons (pv 0) (pa_cons (pe_callB call_len_str (by rfl) ml PySem.boot_len (pa_cons (pv 4) pa_nil)) pa_nil))) (fun _ _ => rfl))) (pe_slice sl_str (pv 2) (po_some (pv 5)) po_none)))))) pss_nil)
      (pss_cons (ps_if (pt_cmpR op_eq (pv 3) pe_int (nomark _))
        (pss_cons (ps_set (i := 2) scText.nd rfl (.inl rfl) (pe_ix ix_list (pe_call0 GT hr (by rfl) gT kT bT .nil pass0) (pe_call GD hr (by rfl) gD kD bD .nil pass0 (pa_cons (pv 0) (pa_cons pe_int pa_nil))) (fun _ _ => rfl)))
        (pss_one (ps_set (i := 2) scText.nd rfl (.inl rfl) (pe_ix ix_list (pe_lst (pa_cons (pv 2) (pa_cons (pe_slice sl_str (pv 2) po_none (po_some (pe_un un_neg pe_int))) (pa_cons (pe_op op_add_str (pv 2) (pe_ix ix_str (pv 1) (pe_call GD hr (by rfl) gD kD bD .nil pass0 (pa_cons (pv 0) (pa_cons pe_int pa_nil))) (fun _ _ => rfl))) (pa_cons (pv 2) pa_nil))))) (pe_call GD hr (by rfl) gD kD bD .nil pass0 (pa_cons (pv 0) (pa_cons pe_int pa_nil))) (fun _ _ => rfl))))) pss_nil)
      (pss_one (ps_ret (pv 2))))))), ?_⟩
    refine ⟨⟨_, rfl⟩, ?_⟩
    refine ⟨(by show 8 ≤ sizeLine; decide), fun L nL => ?_⟩
    have dL : d ≠ L := fun z => by obtain ⟨_, q⟩ := hD.some; rw [z, nL] at q; cases q
    refine ⟨.ref d, rfl, d, 8, n, rfl, hD.ex (.new (xs := []) nL) (by simp), by omega, by decide, by decide, fun H1 v hv0 hv1 x1 D1 => ?_⟩
    have hL1 := x1.lst (upd_same (H := H) (a := L) (o := .lst [.int 1, .int 8, .int 9, .int 0, .int 3, .int 7, .int 10, .int 2])) (by simpa using dL.symm)
    have x01 : Ex [d] H H1 := (Ex.new nL).trans x1
    obtain ⟨r, hr1, hr2, hr3⟩ : ∃ r : Nat, atI [V.int 1, V.int 8, V.int 9, V.int 0, V.int 3, V.int 7, V.int 10, V.int 2] v = some (.int r) ∧ r ≤ 10 ∧ True := by
      have h : v = 0 ∨ v = 1 ∨ v = 2 ∨ v = 3 ∨ v = 4 ∨ v = 5 ∨ v = 6 ∨ v = 7 := by omega
      rcases h with rfl | rfl | rfl | rfl | rfl | rfl | rfl | rfl
      · exact ⟨1, rfl, by decide, trivial⟩
      · exact ⟨8, rfl, by decide, trivial⟩
      · exact ⟨9, rfl, by decide, trivial⟩
      · exact ⟨0, rfl, by decide, trivial⟩
      · exact ⟨3, rfl, by decide, trivial⟩
      · exact ⟨7, rfl, by decide, trivial⟩
      · exact ⟨10, rfl, by decide, trivial⟩
      · exact ⟨2, rfl, by decide, trivial⟩
    refine ⟨L, _, v, .int r, rfl, rfl, .of hL1, hr1, r, rfl, by omega, by omega, fun B nB => ?_⟩
    have nB0 : H B = none := x01.f B nB
    have dB : d ≠ B := fun z => by obtain ⟨_, q⟩ := D1.some; rw [z, nB] at q; cases q
    refine lc_range (lo := 0) (n := (r : Int).toNat) (fun i H2 => ∃ bs : List Str, H2 B = some (.lst (bs.map V.str)) ∧ bs.length = i ∧ (∀ b ∈ bs, One b) ∧ Ex [d] H H2 ∧ Deck H2 d (n + 1 + i)) ?_ ?_ ?_
    · exact ⟨[], upd_same, rfl, by simp, x01.trans (.new nB), D1.ex (.new nB (xs := [])) (by simp)⟩
    · intro i H2 hi ⟨bs, hB, hbl, hbs, x2, D2⟩
      refine ⟨rfl, ?_⟩
      refine ⟨.str abc, rfl, .ref d, rfl, d, 26, n + 1 + i, rfl, D2, by omega, by decide, by decide, fun H3 u hu0 hu1 x3 D3 => ?_⟩
      obtain ⟨c, hc1, hc2⟩ := abc_at u hu0 hu1
      refine ⟨abc, u, c, rfl, rfl, by decide, hc1, bs.map V.str, x3.lst hB (by simpa using dB.symm), by rw [List.length_map]; exact Nat.lt_of_le_of_lt (show bs.length ≤ 10 by omega) (by decide), ?_⟩
      refine ⟨bs ++ [⟨#[c]⟩], by rw [upd_same, List.map_append]; rfl, by rw [List.length_append, hbl]; rfl, fun b hb => ?_, ?_, D3.ex (.put (xs := [B]) (x3.lst hB (by simpa using dB.symm)) nt_lst (by simp)) (by simpa using dB)⟩
      · rcases List.mem_append.mp hb with z | z
        · exact hbs b z
        · exact ⟨c, List.mem_singleton.mp z, hc2⟩
      · exact Ex.own nB0 (x2.trans x3) (.put (x3.lst hB (by simpa using dB.symm)) nt_lst (by simp))
    · intro H2 ⟨bs, hB, hbl, hbs, x2, D2⟩
      obtain ⟨j1, j2⟩ := join_ones hbs
      have jl : (Txt.join (Str.ofString "") bs).length ≤ 10 := by omega
      refine ⟨_, B, bs, rfl, rfl, .inl (.of hB), by rw [ones_sum hbs, show (Str.ofString "").length = 0 by decide +kernel]; omega, ?_⟩
      generalize Txt.join (Str.ofString "") bs = tx at jl
      refine ⟨.ref d, rfl, d, 6, n + 11, rfl, D2.mono (by omega), by omega, by decide, by decide, fun H3 way hw0 hw1 x3 D3 => ?_⟩
      have x03 : Ex [d] H H3 := x2.trans x3
      refine ⟨.int way, rfl, rfl, _, rfl, ite2 (fun e => ?_) (fun e => ?_)⟩
      · obtain rfl : way = 0 := V.int.inj (of_decide_eq_true e)
        refine ⟨.ref d, rfl, .str tx, rfl, tx, rfl, len_line (by omega), _, 1, rfl, rfl, d, _, n + 12, rfl, D3, by omega, by omega, by omega, fun H4 at_ ha0 ha1 x4 D4 => ?_⟩
        refine ⟨.str tx, rfl, .int at_, rfl, at_, rfl, tx, rfl, len_line (by omega), .str odd, rfl, .ref d, rfl, .str odd, rfl, odd, rfl, by decide +kernel, d, _, n + 13, rfl, D4, by omega, by decide +kernel, by decide +kernel, fun H5 o ho0 ho1 x5 D5 => ?_⟩
        obtain ⟨c, hc⟩ := odd_at o ho0 ho1
        have c1 := cut_len tx none (some at_)
        have c2 := cut_len tx (some at_) none
        have c0 : (⟨#[c]⟩ : Str).length = 1 := rfl
        refine ⟨odd, o, c, rfl, rfl, by decide +kernel, hc, _, _, rfl, rfl, Nat.le_trans (show _ ≤ 100 by omega) (by decide), .str tx, rfl, .int at_, rfl, at_, rfl, tx, rfl, len_line (by omega), _, _, rfl, rfl, ?_, ?_⟩
        · rw [len_add]; exact Nat.le_trans (show _ ≤ 100 by omega) (by decide)
        · refine ⟨.int 0, rfl, rfl, _, rfl, iteF ?_⟩
          exact ⟨_, rfl, q H5 _ (by rw [len_add, len_add]; omega) ((x03.trans x4).trans x5) (D5.mono (by omega))⟩
      · refine ⟨.int way, rfl, rfl, _, rfl, ite2 (fun e1 => ?_) (fun e1 => ?_)⟩
        · refine ⟨rfl, fun T nT => ?_⟩
          have dT : d ≠ T := fun z => by obtain ⟨_, q⟩ := D3.some; rw [z, nT] at q; cases q
          refine ⟨.ref d, rfl, d, 19, n + 12, rfl, D3.ex (.new (xs := []) nT) (by simp), by omega, by decide, by decide, fun H4 u hu0 hu1 x4 D4 => ?_⟩
          obtain ⟨z, hz1, hz2⟩ := tong_at u hu0 hu1
          refine ⟨T, tongV, u, .str z, rfl, rfl, .of (x4.lst upd_same (by simpa using dT.symm)), hz1, ?_⟩
          refine ⟨.str z, rfl, .str z, rfl, 1, rfl, -1, rfl, z, rfl, len_line (by omega), .str z, rfl, .str abc, rfl, .ref d, rfl, d, 26, n + 13, rfl, D4, by omega, by decide, by decide, fun H5 t ht0 ht1 x5 D5 => ?_⟩
          obtain ⟨c, hc1, hc2⟩ := abc_at t ht0 ht1
          have c0 : (⟨#[c]⟩ : Str).length = 1 := rfl
          have c1 := cut_len z none (some (-1))
          refine ⟨abc, t, c, rfl, rfl, by decide, hc1, z, _, rfl, rfl, Nat.le_trans (show _ ≤ 100 by omega) (by decide), .str z, rfl, (by show 4 ≤ sizeLine; decide), fun M nM => ?_⟩
          have dM : d ≠ M := fun z => by obtain ⟨_, q⟩ := D5.some; rw [z, nM] at q; cases q
          refine ⟨.ref d, rfl, d, 4, n + 14, rfl, D5.ex (.new (xs := []) nM) (by simp), by omega, by decide, by decide, fun H6 j hj0 hj1 x6 D6 => ?_⟩
          have x06 : Ex [d] H H6 := ((((x03.trans (.new nT)).trans x4).trans x5).trans (.new nM)).trans x6
          have hM := x6.lst (upd_same (H := H5) (a := M) (o := .lst [.str z, .str (cutS z none (some (-1))), .str (z ++ ⟨#[c]⟩), .str z])) (by simpa using dM.symm)
          obtain ⟨y, hy1, hy2⟩ : ∃ y : Str, atI [V.str z, V.str (cutS z none (some (-1))), V.str (z ++ ⟨#[c]⟩), V.str z] j = some (.str y) ∧ y.length ≤ 30 := by
            have h : j = 0 ∨ j = 1 ∨ j = 2 ∨ j = 3 := by omega
            rcases h with rfl | rfl | rfl | rfl
            · exact ⟨z, rfl, by omega⟩
            · exact ⟨_, rfl, by omega⟩
            · exact ⟨_, rfl, by rw [len_add]; omega⟩
            · exact ⟨z, rfl, by omega⟩
          refine ⟨M, _, j, .str y, rfl, rfl, .of hM, hy1, _, rfl, q H6 y hy2 x06 (D6.mono (by omega))⟩
        · exact ⟨_, rfl, q H3 tx (by omega) x03 (D3.mono (by omega))⟩
end
end K01

namespace Kk
open PySem PySem.Spec PyProof.Rows L2
/-- a list held against the empty one -/
theorem op_eq_nil {X : Cx} {k : Nat} (hr : Room k X.A) : OpR X (compareOp .Eq) (fun x y H Q => ∃ a b xs, x = .ref a ∧ y = .ref b ∧ SqL X.K H a xs ∧ SqL X.K H b [] ∧ Q (.bl xs.isEmpty) H) := by
  intro pins s σ H x y v u Q I rx ry h
  obtain ⟨a, b, xs, rfl, rfl, ha, hb, q⟩ := h
  cases (show v = Value.ref a from rx)
  cases (show u = Value.ref b from ry)
  obtain ⟨its, r, pl, hz⟩ := I.list ha
  obtain ⟨its2, r2, pl2, hz2⟩ := I.list hb
  have e2 : its2 = [] := List.length_eq_zero_iff.mp r2.length.symm
  subst e2
  cases xs with
  | nil =>
    have e1 : its = [] := List.length_eq_zero_iff.mp r.length.symm
    subst e1
    exact SeqAt.eq_listAt (e := fun _ => true) pl.isList pl2.isList rfl hr.units0 (fun j h1 _ => absurd h1 (Nat.not_lt_zero j)) ⟨.bl true, H, I, rfl, q⟩
  | cons z zs =>
    have e1 : its.length = zs.length + 1 := r.length.symm
    refine SeqAt.eq_list_lengthsAt pl.isList pl2.isList ?_ hr.units0 ⟨.bl false, H, I, rfl, q⟩
    simp [e1]
end Kk
namespace K01
open PySem PySem.Spec PyProof.Rows L2 Kk
abbrev sLName : Stmt := topS 13
abbrev sLBox : Stmt := topS 14
abbrev nLName : List Str := ["_law_text_here", "_law_sign"]
abbrev nLBox : List Str := ["_law_text_here", "_law_parts", "_law_part"]
theorem scLName : FnScope nLName ["_law_text_here"] (defScope sLName) := ⟨rfl, rfl, rfl, by decide +kernel, rfl, by decide +kernel, by decide +kernel⟩
theorem scLBox : FnScope nLBox ["_law_text_here"] (defScope sLBox) := ⟨rfl, rfl, rfl, by decide +kernel, rfl, by decide +kernel, by decide +kernel⟩
theorem split_len : ∀ (n : Nat) (a : Str), a.length ≤ n → ∀ p ∈ Txt.split a dotS, p.length ≤ a.length := by
  intro n
  induction n with
  | zero =>
    intro a ha p hp
    have e : 46 ∉ TL.tl a := fun h => by
      have := List.length_pos_of_mem h
      rw [← TL.len_tl] at this; omega
    rw [split_none e] at hp
    rw [List.mem_singleton.mp hp]; exact Nat.le_refl _
  | succ n ih =>
    intro a ha p hp
    by_cases h : 46 ∈ TL.tl a
    · obtain ⟨l, r, e, nn⟩ := cut _ h
      have e1 : TL.tl (⟨l.toArray⟩ : Str) = l := by simp [TL.tl]
      have e2 : TL.tl (⟨r.toArray⟩ : Str) = r := by simp [TL.tl]
      have el := congrArg List.length e
      rw [List.length_append, List.length_cons, ← TL.len_tl] at el
      rw [split_cut (p := ⟨l.toArray⟩) (q := ⟨r.toArray⟩) (by rw [e1, e2]; exact e) (by rw [e1]; exact nn)] at hp
      rcases List.mem_cons.mp hp with z | z
      · rw [z, TL.len_tl, e1]; omega
      · have := ih ⟨r.toArray⟩ (by rw [TL.len_tl, e2]; omega) p z
        rw [TL.len_tl (⟨r.toArray⟩ : Str), e2] at this; omega
    · rw [split_none h] at hp
      rw [List.mem_singleton.mp hp]; exact Nat.le_refl _
theorem split_count (a : Str) : (Txt.split a dotS).length ≤ a.length + 1 := by
  have : ∀ (n : Nat) (a : Str), a.length ≤ n → (Txt.split a dotS).length ≤ a.length + 1 := by
    intro n
    induction n with
    | zero =>
      intro a ha
      have e : 46 ∉ TL.tl a := fun h => by
        have := List.length_pos_of_mem h
        rw [← TL.len_tl] at this; omega
      rw [split_none e]; simp
    | succ n ih =>
      intro a ha
      by_cases h : 46 ∈ TL.tl a
      · obtain ⟨l, r, e, nn⟩ := cut _ h
        have e1 : TL.tl (⟨l.toArray⟩ : Str) = l := by simp [TL.tl]
        have e2 : TL.tl (⟨r.toArray⟩ : Str) = r := by simp [TL.tl]
        have el := congrArg List.length e
        rw [List.length_append, List.length_cons, ← TL.len_tl] at el
        rw [split_cut (p := ⟨l.toArray⟩) (q := ⟨r.toArray⟩) (by rw [e1, e2]; exact e) (by rw [e1]; exact nn), List.length_cons]
        have := ih ⟨r.toArray⟩ (by rw [TL.len_tl, e2]; omega)
        rw [TL.len_tl (⟨r.toArray⟩ : Str), e2] at this; omega
      · rw [split_none h]; simp
  exact this a.length a (Nat.le_refl _)
section
variable {P : Program} {w : World} {K : PySem.W.Frag} {mg : Str → Option Value} {base : Heap}
def spLName : Sp := fun vs H Q _ => ∃ a : Str, vs = [.str a] ∧ a.length ≤ 1000 ∧ ∀ H', Ex [] H H' → Q (.bl (nameB a)) H'
theorem ok_lname {f fT : Addr} {fd fdT : FuncData} {k : Nat} (F : Fun K "_law_is_name" "_law_is_name" sLName f fd) (GT : FnOk P w K mg base CX0 (k + 1) fT fdT [] spTongue) (kT : PySem.W.keepIn K (.ref fT) = true) (bT : Binds K fdT [] []) (gT : mg "_law_tongue" = some (.ref fT))
    (ml : mg "len" = none) : FnOk P w K mg base CX0 (k + 2) f fd ["_law_text_here"] spLName := by
  refine F.ok scLName (fun vs H Q E h => ?_) (fun cdv A outer s H vs Q E hr h => ?_)
  · obtain ⟨a, rfl, _⟩ := h; rfl
  · obtain ⟨a, rfl, ha, q⟩ := h
    refine ⟨_, pss_cons (ps_if (PW.pt (pw_or (pt_not (pt_chain op_le op_le pe_int (pe_callB call_len_str (by rfl) ml PySem.boot_len (pa_cons (pv 0) pa_nil)) pe_int))
        (pw_or1 (pt_cmpR op_in_seq (pv 0) (pe_call0 GT hr (by rfl) gT kT bT .nil pass0) rfl)))) (pss_one (ps_ret pe_bl)) pss_nil)
      (pss_one (ps_ret (pe_cmpR (op_eq_nil hr) (pe_lc (own := [("_law_sign", 1)]) (g := gName 1) rfl scLName.nd (pi_str (pv 0)) (blkOk_by (N := nLName) (sc := defScope sLName) (by decide +kernel))
          (fun _ _ _ _ _ => pg_name (i := 1) scLName.nd rfl (Or.inl rfl)) (fun _ _ _ _ _ => pts_one (pt_cmpR op_notIn_sign (pv 1) pe_str rfl)) (fun _ _ _ _ _ => pv 1)) (pe_lst pa_nil) (nomark _)))), ?_⟩
    have bad : (decide ((1 : Int) ≤ (a.length : Int)) && decide ((a.length : Int) ≤ 8)) = false → Q (.bl false) H := fun e => by
      have q2 := q H .refl
      unfold nameB at q2
      rw [e, Bool.and_false, Bool.false_and] at q2
      exact q2
    have good : ∀ (e : (decide ((1 : Int) ≤ (a.length : Int)) && decide ((a.length : Int) ≤ 8)) = true) (e2 : inV (.str a) tongV = false), nameB a = allAbc a := fun e e2 => by
      unfold nameB; rw [e, e2]; rfl
    refine ⟨.str a, rfl, a, rfl, len_line ha, 1, (a.length : Int), rfl, rfl, _, rfl, ite2 (fun e4 => ?_) (fun e4 => ?_)⟩
    · refine ⟨_, 8, rfl, rfl, _, rfl, ite2 (fun e5 => ?_) (fun e5 => ?_)⟩
      · refine bad ?_
        have e6 : decide ((a.length : Int) ≤ 8) = false := by
          have e7 : (!decide ((a.length : Int) ≤ 8)) = true := e5
          rw [Bool.not_eq_true'] at e7; exact e7
        rw [e6, Bool.and_false]
      · have e6 : decide ((a.length : Int) ≤ 8) = true := by
          cases z : decide ((a.length : Int) ≤ 8) with
          | true => rfl
          | false =>
            have : (!decide ((a.length : Int) ≤ 8)) = true := by rw [z]; rfl
            exact absurd this e5
        refine ⟨.str a, rfl, rfl, fun T nT => ?_⟩
        have xT : Ex [] H (upd H T (.lst tongV)) := .new nT
        refine ⟨T, tongV, rfl, .inl (.of upd_same), rfl, flat_tong, _, rfl, ite2 (fun c => ?_) (fun c => ?_)⟩
        · have c2 : inV (.str a) tongV = true := c
          have q2 := q _ xT
          unfold nameB at q2
          rw [c2] at q2; exact q2
        · have c2 : inV (.str a) tongV = false := by cases z : inV (.str a) tongV with | false => rfl | true => exact absurd z c
          have en := good (by rw [e4, e6]; rfl) c2
          refine ⟨.str a, rfl, a, rfl, fun D nD => ?_⟩
          have sz : a.cps.size = a.cps.toList.length := by simp
          refine lc_it walk_str (fun i H2 => ∃ acc, H2 D = some (.lst acc) ∧ acc.length ≤ i ∧ i ≤ a.cps.size ∧ acc.isEmpty = (a.cps.toList.take i).all (fun c => decide (c ∈ abc.cps.toList)) ∧ Ex [] H H2) ?_ (fun _ _ _ _ => trivial) ?_ ?_
          · exact ⟨[], upd_same, Nat.le_refl _, Nat.zero_le _, rfl, xT.trans (.new nD)⟩
          · intro i x H2 H3 hi ⟨acc, hD, hl, hi2, he, x2⟩ ⟨e, c, hc, ex⟩
            subst e ex
            have tk : a.cps.toList.take (i + 1) = a.cps.toList.take i ++ [c] := by
              rw [List.take_add_one]
              have : a.cps.toList[i]? = some c := by rw [Array.getElem?_toList]; exact hc
              rw [this]; rfl
            have hlen : a.cps.size ≤ 1000 := ha
            refine ⟨rfl, ?_⟩
            refine ⟨.str ⟨#[c]⟩, rfl, c, abc, rfl, rfl, _, rfl, ite2 (fun c1 => ?_) (fun c1 => ?_)⟩
            · refine ⟨_, rfl, acc, hD, Nat.lt_of_le_of_lt (show acc.length ≤ 1000 by omega) (by decide), acc ++ [_], upd_same, by rw [List.length_append]; simp; omega, by omega, ?_, Ex.own ((xT.f D nD)) x2 (.put hD nt_lst (by simp))⟩
              have c3 : decide (c ∈ abc.cps.toList) = false := by
                have c4 : (!decide (c ∈ abc.cps.toList)) = true := c1
                rw [Bool.not_eq_true'] at c4; exact c4
              rw [tk, List.all_append, List.all_cons, c3, Bool.false_and, Bool.and_false]
              simp
            · refine ⟨acc, hD, by omega, by omega, ?_, x2⟩
              have c3 : decide (c ∈ abc.cps.toList) = true := by
                cases z : decide (c ∈ abc.cps.toList) with
                | true => rfl
                | false =>
                  have : (!decide (c ∈ abc.cps.toList)) = true := by rw [z]; rfl
                  exact absurd this c1
              rw [tk, List.all_append, List.all_cons, c3, he]; simp
          · intro H2 ⟨acc, hD, hl, hi2, he, x2⟩
            refine ⟨Nat.zero_le _, fun Z nZ => ?_⟩
            have x3 : Ex [] H2 (upd H2 Z (.lst [])) := .new nZ
            refine ⟨D, Z, acc, rfl, rfl, .of (x3.lst hD), .of upd_same, ?_⟩
            have q2 := q _ (x2.trans x3)
            rw [en] at q2
            rw [he, sz, List.take_length]
            exact q2
    · refine ⟨false, rfl, iteT (bad ?_)⟩
      have e6 : decide ((1 : Int) ≤ (a.length : Int)) = false := by cases z : decide ((1 : Int) ≤ (a.length : Int)) with | false => rfl | true => exact absurd z e4
      rw [e6, Bool.false_and]
end
end K01

namespace K01
open PySem PySem.Spec PyProof.Rows L2 Kk
abbrev sRight : Stmt := topS 15
abbrev nRight : List Str := ["_law_text_here", "_law_found", "_law_due"]
theorem scRight : FnScope nRight ["_law_text_here"] (defScope sRight) := ⟨rfl, rfl, rfl, by decide +kernel, rfl, by decide +kernel, by decide +kernel⟩
section
variable {P : Program} {w : World} {K : PySem.W.Frag} {mg : Str → Option Value} {base : Heap}
def spLBox : Sp := fun vs H Q _ => ∃ a : Str, vs = [.str a] ∧ a.length ≤ 1000 ∧ ∀ H', Ex [] H H' → Q (.bl (lawBox a)) H'
theorem ok_lbox {f fN : Addr} {fd fdN : FuncData} {k : Nat} (F : Fun K "_law_is_box" "_law_is_box" sLBox f fd) (GN : FnOk P w K mg base CX0 (k + 1) fN fdN ["_law_text_here"] spLName) (kN : PySem.W.keepIn K (.ref fN) = true) (bN : Binds K fdN ["_law_text_here"] []) (gN : mg "_law_is_name" = some (.ref fN))
    (ml : mg "len" = none) : FnOk P w K mg base CX0 (k + 2) f fd ["_law_text_here"] spLBox := by
  refine F.ok scLBox (fun vs H Q E h => ?_) (fun cdv A outer s H vs Q E hr h => ?_)
  · obtain ⟨a, rfl, _⟩ := h; rfl
  · obtain ⟨a, rfl, ha, q⟩ := h
    refine ⟨_, pss_cons (ps_set (i := 1) scLBox.nd rfl (.inl rfl) (pe_split (pv 0) pe_str))
      (pss_one (ps_ret (pe_and (pe_cmpR op_lt (pe_callB call_len_seq (by rfl) ml PySem.boot_len (pa_cons (pv 1) pa_nil)) pe_int (nomark _))
        (pe_one (pe_cmpR (op_eq_nil hr) (pe_lc (own := [("_law_part", 2)]) (g := gName 2) rfl scLBox.nd (pi_list (pv 1)) (blkOk_by (N := nLBox) (sc := defScope sLBox) (by decide +kernel))
          (fun _ _ _ _ _ => pg_name (i := 2) scLBox.nd rfl (Or.inl rfl)) (fun _ _ _ _ _ => pts_one (pt_not (pt_val (pe_call GN hr (by rfl) gN kN bN .nil pass0 (pa_cons (pv 2) pa_nil))))) (fun _ _ _ _ _ => pv 2)) (pe_lst pa_nil) (nomark _)))))), ?_⟩
    refine ⟨.str a, rfl, ⟨a, rfl⟩, a, dotS, rfl, rfl, by decide +kernel, Nat.le_trans (show _ ≤ 1002 by omega) (by decide), fun p np => ?_⟩
    have hlen := split_len a.length a (Nat.le_refl _)
    have hcnt := split_count a
    unfold lawBox at q
    generalize Txt.split a dotS = ps at q hlen hcnt
    have xp : Ex [] H (upd H p (.lst (ps.map V.str))) := .new np
    refine ⟨.ref p, rfl, p, ps.map V.str, rfl, .inl (.of upd_same), _, 3, rfl, rfl, _, rfl, ite2 (fun e => ?_) (fun e => ?_)⟩
    · have e1 : decide (ps.length < 3) = true := by
        have e2 := of_decide_eq_true e
        rw [List.length_map] at e2
        exact decide_eq_true (by omega)
      rw [e1, Bool.true_and] at q
      refine ⟨.ref p, rfl, p, rfl, ⟨_, .of upd_same⟩, fun D nD => ?_⟩
      have np0 : p ≠ D := fun z => by rw [← z, upd_same] at nD; cases nD
      refine lc_list (a := p) (xs := ps.map V.str) (fun i H2 => ∃ acc, H2 D = some (.lst acc) ∧ acc.length ≤ i ∧ acc.isEmpty = (ps.take i).all nameB ∧ H2 p = some (.lst (ps.map V.str)) ∧ Ex [] H H2) ?_ ?_ ?_ ?_
      · exact ⟨[], upd_same, Nat.le_refl _, rfl, by rw [upd_ne np0, upd_same], xp.trans (.new nD)⟩
      · intro i H2 _ ⟨acc, _, _, _, hp, _⟩
        exact .of hp
      · intro i x H2 hx ⟨acc, hD, hl, he, hp, x2⟩
        rw [List.getElem?_map] at hx
        cases hz : ps[i]? with
        | none => rw [hz] at hx; cases hx
        | some z =>
          rw [hz] at hx
          cases hx
          have hi : i < ps.length := (List.getElem?_eq_some_iff.mp hz).1
          have hzl := hlen z (List.mem_of_getElem? hz)
          have tk : ps.take (i + 1) = ps.take i ++ [z] := by rw [List.take_add_one, hz]; rfl
          refine ⟨rfl, ?_⟩
          refine ⟨.str z, rfl, z, rfl, by omega, fun H3 x3 => ⟨_, rfl, ite2 (fun c => ?_) (fun c => ?_)⟩⟩
          · have c2 : nameB z = false := by
              have c3 : (!nameB z) = true := c
              rw [Bool.not_eq_true'] at c3; exact c3
            refine ⟨.str z, rfl, acc, x3.lst hD, Nat.lt_of_le_of_lt (show acc.length ≤ 2000 by omega) (by decide), acc ++ [_], upd_same, by rw [List.length_append]; simp; omega, ?_, ?_, ?_⟩
            · rw [tk, List.all_append, List.all_cons, c2, Bool.false_and, Bool.and_false]; simp
            · rw [upd_ne np0]; exact x3.lst hp
            · exact Ex.own (xp.f D nD) (x2.trans x3) (.put (x3.lst hD) nt_lst (by simp))
          · have c2 : nameB z = true := by
              cases y : nameB z with
              | true => rfl
              | false => exact absurd (by rw [y]; rfl) c
            refine ⟨acc, x3.lst hD, by omega, ?_, x3.lst hp, x2.trans x3⟩
            rw [tk, List.all_append, List.all_cons, c2, he]; simp
      · intro H2 ⟨acc, hD, hl, he, hp, x2⟩
        refine ⟨Nat.zero_le _, fun Z nZ => ?_⟩
        have x3 : Ex [] H2 (upd H2 Z (.lst [])) := .new nZ
        refine ⟨D, Z, acc, rfl, rfl, .of (x3.lst hD), .of upd_same, ?_⟩
        have q2 := q _ (x2.trans x3)
        rw [he, List.length_map, List.take_length]
        exact q2
    · have e1 : decide (ps.length < 3) = false := by
        refine decide_eq_false fun z => e ?_
        refine decide_eq_true ?_
        rw [List.length_map]; omega
      have q2 := q _ xp
      rw [e1, Bool.false_and] at q2
      exact q2

def spRight (T : Addr) : Sp := fun vs H Q _ => ∃ a : Str, vs = [.str a] ∧ a.length ≤ 1000 ∧ GxR.TabG H T ∧ ∀ H', Ex [] H H' → Q (.bl true) H'
theorem ok_right {f f1 f2 f3 f4 T : Addr} {fd fd1 fd2 fd3 fd4 : FuncData} {k : Nat} (F : Fun K "_law_right" "_law_right" sRight f fd)
    (G1 : FnOk P w K mg base CX0 k f1 fd1 ["thing"] (spName K T)) (k1 : PySem.W.keepIn K (.ref f1) = true) (b1 : Binds K fd1 ["thing"] []) (g1 : mg "is_name" = some (.ref f1))
    (G2 : FnOk P w K mg base CX0 k f2 fd2 ["_law_text_here"] spLName) (k2 : PySem.W.keepIn K (.ref f2) = true) (b2 : Binds K fd2 ["_law_text_here"] []) (g2 : mg "_law_is_name" = some (.ref f2))
    (G3 : FnOk P w K mg base CX0 k f3 fd3 ["thing"] (spBox K T)) (k3 : PySem.W.keepIn K (.ref f3) = true) (b3 : Binds K fd3 ["thing"] []) (g3 : mg "is_box" = some (.ref f3))
    (G4 : FnOk P w K mg base CX0 k f4 fd4 ["_law_text_here"] spLBox) (k4 : PySem.W.keepIn K (.ref f4) = true) (b4 : Binds K fd4 ["_law_text_here"] []) (g4 : mg "_law_is_box" = some (.ref f4))
    (mi : mg "isinstance" = none) (mb : mg "bool" = none) : FnOk P w K mg base CX0 (k + 1) f fd ["_law_text_here"] (spRight T) := by
  refine F.ok scRight (fun vs H Q E h => ?_) (fun cdv A outer s H vs Q E hr h => ?_)
  · obtain ⟨a, rfl, _⟩ := h; rfl
  · obtain ⟨a, rfl, ha, hT, q⟩ := h
    refine ⟨_, pss_cons (ps_for PassesOwn.never rfl (pi_list (pe_lst (pa_cons (pe_tup (pa_cons (pe_call G1 hr (by rfl) g1 k1 b1 .nil pass0 (pa_cons (pv 0) pa_nil)) (pa_cons (pe_call G2 hr (by rfl) g2 k2 b2 .nil pass0 (pa_cons (pv 0) pa_nil)) pa_nil)))
          (pa_cons (pe_tup (pa_cons (pe_call G3 hr (by rfl) g3 k3 b3 .nil pass0 (pa_cons (pv 0) pa_nil)) (pa_cons (pe_call G4 hr (by rfl) g4 k4 b4 .nil pass0 (pa_cons (pv 0) pa_nil)) pa_nil))) pa_nil))))
        (pg_tup rfl (pgs_cons (pg_name (i := 1) scRight.nd rfl (.inl rfl)) (pgs_cons (pg_name (i := 2) scRight.nd rfl (.inl rfl)) pgs_nil)))
        (pss_one (ps_if (PW.pt (pw_or (pt_not (pt_val (pe_callB call_isi (by rfl) mi (by decide +kernel) (pa_cons (pv 1) (pa_cons (pe_bltn (v := .ty "bool") (by rfl) mb (by decide +kernel) rfl) pa_nil)))))
          (pw_or1 (pt_cmpR op_ne (pv 1) (pv 2) (nomark _))))) (pss_one (ps_ret pe_bl)) pss_nil)))
      (pss_one (ps_ret pe_bl)), ?_⟩
    refine ⟨.str a, rfl, .str a, rfl, hT, .inl ⟨a, rfl, ha, fun H1 x1 => ?_⟩⟩
    refine ⟨.str a, rfl, a, rfl, ha, fun H2 x2 => ?_⟩
    refine ⟨(by show 2 ≤ sizeLine; decide), fun t1 n1 => ?_⟩
    have x3 : Ex [] H2 (upd H2 t1 (.tup [.bl (nameB a), .bl (nameB a)])) := .new n1
    refine ⟨.str a, rfl, .str a, rfl, x3.t _ (x2.t _ (x1.t _ hT)), .inl ⟨a, rfl, ha, fun H4 x4 => ?_⟩⟩
    refine ⟨.str a, rfl, a, rfl, ha, fun H5 x5 => ?_⟩
    refine ⟨(by show 2 ≤ sizeLine; decide), fun t2 n2 => ?_⟩
    have x6 : Ex [] H5 (upd H5 t2 (.tup [.bl (boxB a), .bl (lawBox a)])) := .new n2
    refine ⟨(by show 2 ≤ sizeLine; decide), fun l nl => ?_⟩
    have x7 : Ex [] (upd H5 t2 (.tup [.bl (boxB a), .bl (lawBox a)])) (upd (upd H5 t2 (.tup [.bl (boxB a), .bl (lawBox a)])) l (.lst [.ref t1, .ref t2])) := .new nl
    have h1 := (((x4.trans x5).trans x6).trans x7).tup (upd_same (H := H2) (a := t1) (o := .tup [.bl (nameB a), .bl (nameB a)]))
    have h2 := x7.tup (upd_same (H := H5) (a := t2) (o := .tup [.bl (boxB a), .bl (lawBox a)]))
    rw [← box_eq a] at h1 h2 x7
    rw [← box_eq a]
    have x07 := (((((x1.trans x2).trans x3).trans x4).trans x5).trans (.new (o := .tup [.bl (boxB a), .bl (boxB a)]) n2)).trans x7
    have hl : (upd (upd H5 t2 (.tup [.bl (boxB a), .bl (boxB a)])) l (.lst [.ref t1, .ref t2])) l = some (.lst [.ref t1, .ref t2]) := upd_same
    generalize upd (upd H5 t2 (.tup [.bl (boxB a), .bl (boxB a)])) l (.lst [.ref t1, .ref t2]) = H8 at h1 h2 x07 hl
    refine ⟨l, rfl, ⟨_, .of hl⟩, for_list (a := l) (xs := [.ref t1, .ref t2]) (fun i σ H9 => H9 = H8 ∧ ∃ y1 y2, σ = [some (.str a), y1, y2]) ⟨rfl, _, _, rfl⟩ (fun i σ H9 _ h => by rw [h.1]; exact .of hl) ?_ ?_⟩
    · intro i x σ H9 hx ⟨e, y1, y2, es⟩
      subst e es
      obtain ⟨t, b, ht, hb⟩ : ∃ t b, x = .ref t ∧ H9 t = some (.tup [.bl b, .bl b]) := by
        match i, hx with
        | 0, hx => cases hx; exact ⟨t1, _, rfl, h1⟩
        | 1, hx => cases hx; exact ⟨t2, _, rfl, h2⟩
        | i + 2, hx => simp at hx
      subst ht
      refine ⟨t, _, rfl, .of hb, rfl, _, _, rfl, _, _, rfl, rfl, ?_⟩
      refine ⟨.bl b, rfl, .bl b, .ty "bool", .type "bool", .type "bool", true, rfl, .ty "bool", .base (.bl b), kit_ty (by decide +kernel), true, rfl, iteF ?_⟩
      refine ⟨.bl b, rfl, .bl b, rfl, rfl, _, rfl, ?_⟩
      rw [decide_eq_true rfl]
      exact iteF ⟨rfl, _, _, rfl⟩
    · intro σ H9 ⟨e, y1, y2, es⟩
      subst e es
      exact q _ x07
end
end K01

namespace Kk
open PySem PySem.Spec PyProof.Rows L2
def rLenK (K : PySem.W.Frag) : List V → Hp → VK → Prop := fun xs H Q => ∃ p ys, xs = [V.ref p] ∧ (SqL K H p ys ∨ SqT K H p ys) ∧ Q (V.int ys.length) H
/-- within a comprehension: the written part is the def's own -/
theorem call_lenK {X : Cx} {K : PySem.W.Frag} (h : X.K = K) : CallR X (.builtin "len") (rLenK K) := by subst h; exact call_len_seq
theorem ix_listK {X : Cx} {K : PySem.W.Frag} (h : X.K = K) : IxR X (rIxL K) := by subst h; exact ix_list
theorem ix_tupK {X : Cx} {K : PySem.W.Frag} (h : X.K = K) : IxR X (rIxT K) := by subst h; exact ix_tup
end Kk
namespace K01
open PySem PySem.Spec PyProof.Rows L2 Kk
abbrev sRecs : Stmt := topS 16
abbrev nRecs : List Str := ["_law_deck_here", "_law_names_here", "_law_one", "_law_other", "_law_third", "_law_box", "_law_due", "_law_found", "_law_k"]
theorem scRecs : FnScope nRecs ["_law_deck_here", "_law_names_here"] (defScope sRecs) := ⟨rfl, rfl, rfl, by decide +kernel, rfl, by decide +kernel, by decide +kernel⟩
theorem str_at {ws : List Str} {v : Int} (h0 : 0 ≤ v) (h1 : v < (ws.map V.str).length) : ∃ z ∈ ws, atI (ws.map V.str) v = some (.str z) := by
  rw [List.length_map] at h1
  have hv : v.toNat < ws.length := by omega
  refine ⟨ws[v.toNat], List.getElem_mem _, ?_⟩
  have e : (ws.map V.str)[v.toNat]? = some (.str ws[v.toNat]) := by rw [List.getElem?_map, List.getElem?_eq_getElem hv]; rfl
  have := atI_nat e
  rwa [Int.toNat_of_nonneg h0] at this
section
variable {P : Program} {w : World} {K : PySem.W.Frag} {mg : Str → Option Value} {base : Heap}
def spRecs : Sp := fun vs H Q _ => ∃ (d l : Addr) (n : Nat) (ws : List Str), vs = [.ref d, .ref l] ∧ Deck H d n ∧ n ≤ 1000 ∧ H l = some (.lst (ws.map V.str)) ∧ l ≠ d ∧ 1 ≤ ws.length ∧ ws.length ≤ 1000 ∧ (∀ z ∈ ws, Nm z) ∧
  ∀ H', Ex [d] H H' → Deck H' d (n + 3) → Q (.bl true) H'
theorem ok_recs {f fD fR : Addr} {fd fdD fdR : FuncData} {k : Nat} (F : Fun K "_law_records_right" "_law_records_right" sRecs f fd) (GD : FnOk P w K mg base CX0 (k + 1) fD fdD ["_law_deck_here", "_law_many"] spDraw) (kD : PySem.W.keepIn K (.ref fD) = true)
    (bD : Binds K fdD ["_law_deck_here", "_law_many"] []) (gD : mg "_law_draw" = some (.ref fD)) (GR : FnOk P w K mg base CX0 (k + 1) fR fdR ["box", "name"] spRec) (kR : PySem.W.keepIn K (.ref fR) = true) (bR : Binds K fdR ["box", "name"] []) (gR : mg "in_record" = some (.ref fR))
    (ml : mg "len" = none) (mr : mg "range" = none) (mi : mg "isinstance" = none) (mb : mg "bool" = none) : FnOk P w K mg base CX0 (k + 2) f fd ["_law_deck_here", "_law_names_here"] spRecs := by
  refine F.ok scRecs (fun vs H Q E h => ?_) (fun cdv A outer s H vs Q E hr h => ?_)
  · obtain ⟨d, l, n, ws, rfl, _⟩ := h; rfl
  · obtain ⟨d, l, n, ws, rfl, hD, hn, hl, ld, hw1, hw2, hws, q⟩ := h
    refine ⟨_, pss_cons (ps_asg (pe_lc (own := [("_law_k", 8)]) (g := gName 8) (tt := tYes) rfl scRecs.nd (pi_range1 (by rfl) mr (pa_cons pe_int pa_nil)) (blkOk_by (N := nRecs) (sc := defScope sRecs) (by decide +kernel))
          (fun _ _ _ _ _ => pg_name (i := 8) scRecs.nd rfl (Or.inl rfl)) (fun _ _ _ _ _ => pts_nil)
          (fun _ _ _ _ _ => pe_ix (ix_listK (K := K) rfl) (pv 1) (pe_call GD hr (by rfl) gD kD bD .nil pass0 (pa_cons (pv 0) (pa_cons (pe_callB (call_lenK (K := K) rfl) (by rfl) ml PySem.boot_len (pa_cons (pv 1) pa_nil)) pa_nil))) (fun _ _ => rfl)))
        (pg_lst rfl (pgs_cons (pg_name (i := 2) scRecs.nd rfl (.inl rfl)) (pgs_cons (pg_name (i := 3) scRecs.nd rfl (.inl rfl)) (pgs_cons (pg_name (i := 4) scRecs.nd rfl (.inl rfl)) pgs_nil)))))
      (pss_cons (ps_for PassesOwn.never rfl (pi_list (pe_lst (pa_cons (pe_tup (pa_cons (pe_op op_add_str (pe_op op_add_str (pv 2) pe_str) (pv 3)) (pa_cons (pe_cmpR op_eq (pv 2) (pv 4) (nomark _)) pa_nil)))
          (pa_cons (pe_tup (pa_cons (pv 2) (pa_cons pe_bl pa_nil))) (pa_cons (pe_tup (pa_cons (pe_op op_add_str (pe_op op_add_str (pv 2) pe_str) (pv 4)) (pa_cons (pe_cmpR op_eq (pv 2) (pv 4) (nomark _)) pa_nil))) pa_nil)))))
        (pg_tup rfl (pgs_cons (pg_name (i := 5) scRecs.nd rfl (.inl rfl)) (pgs_cons (pg_name (i := 6) scRecs.nd rfl (.inl rfl)) pgs_nil)))
        (pss_cons (ps_set (i := 7) scRecs.nd rfl (.inl rfl) (pe_call GR hr (by rfl) gR kR bR .nil pass0 (pa_cons (pv 5) (pa_cons (pv 4) pa_nil))))
        (pss_one (ps_if (PW.pt (pw_or (pt_not (pt_val (pe_callB call_isi (by rfl) mi (by decide +kernel) (pa_cons (pv 7) (pa_cons (pe_bltn (v := .ty "bool") (by rfl) mb (by decide +kernel) rfl) pa_nil)))))
          (pw_or1 (pt_cmpR op_ne (pv 7) (pv 6) (nomark _))))) (pss_one (ps_ret pe_bl)) pss_nil))))
      (pss_one (ps_ret pe_bl))), ?_⟩
    refine ⟨3, rfl, by decide, by decide, fun B nB => ?_⟩
    have dB : d ≠ B := fun z => by obtain ⟨_, q⟩ := hD.some; rw [z, nB] at q; cases q
    have lB : l ≠ B := ne_of_none hl nB
    refine lc_range (lo := 0) (n := 3) (fun i H2 => ∃ bs : List Str, H2 B = some (.lst (bs.map V.str)) ∧ bs.length = i ∧ (∀ b ∈ bs, Nm b) ∧ H2 l = some (.lst (ws.map V.str)) ∧ Ex [d] H H2 ∧ Deck H2 d (n + i)) ?_ ?_ ?_
    · exact ⟨[], upd_same, rfl, by simp, (Ex.new (xs := []) nB).lst hl, .new nB, hD.ex (.new nB (xs := [])) (by simp)⟩
    · intro i H2 hi ⟨bs, hB, hbl, hbs, hl2, x2, D2⟩
      refine ⟨rfl, ?_⟩
      refine ⟨.ref l, rfl, .ref d, rfl, .ref l, rfl, l, _, rfl, .inl (.of hl2), d, _, n + i, rfl, D2, by omega, by rw [List.length_map]; omega, by rw [List.length_map]; omega, fun H3 u hu0 hu1 x3 D3 => ?_⟩
      obtain ⟨z, hz, hz2⟩ := str_at hu0 hu1
      have hl3 := x3.lst hl2 (by simpa using ld)
      have hB3 := x3.lst hB (by simpa using dB.symm)
      refine ⟨l, _, u, .str z, rfl, rfl, .of hl3, hz2, bs.map V.str, hB3, by rw [List.length_map]; exact Nat.lt_of_le_of_lt (show bs.length ≤ 10 by omega) (by decide), ?_⟩
      refine ⟨bs ++ [z], by rw [upd_same, List.map_append]; rfl, by rw [List.length_append, hbl]; rfl, fun b hb => ?_, by rw [upd_ne lB]; exact hl3, Ex.own nB (x2.trans x3) (.put hB3 nt_lst (by simp)), D3.ex (.put (xs := [B]) hB3 nt_lst (by simp)) (by simpa using dB)⟩
      rcases List.mem_append.mp hb with y | y
      · exact hbs b y
      · rw [List.mem_singleton.mp y]; exact hws z hz
    · intro H2 ⟨bs, hB, hbl, hbs, hl2, x2, D2⟩
      obtain ⟨a1, a2, a3, rfl⟩ : ∃ a1 a2 a3, bs = [a1, a2, a3] := by
        match bs, hbl with
        | [a1, a2, a3], _ => exact ⟨a1, a2, a3, rfl⟩
      obtain ⟨n1, l1⟩ := hbs a1 (by simp)
      obtain ⟨n2, l2⟩ := hbs a2 (by simp)
      obtain ⟨n3, l3⟩ := hbs a3 (by simp)
      refine ⟨B, _, rfl, .of hB, rfl, _, _, rfl, _, _, rfl, _, _, rfl, rfl, ?_⟩
      have dl : dotS.length = 1 := by decide +kernel
      refine ⟨.str a1, rfl, a1, dotS, rfl, rfl, by rw [dl]; exact Nat.le_trans (show _ ≤ 1000 by omega) (by decide), .str a2, rfl, _, a2, rfl, rfl, by rw [len_add, dl]; exact Nat.le_trans (show _ ≤ 1000 by omega) (by decide), .str a1, rfl, .str a3, rfl, rfl, (by show 2 ≤ sizeLine; decide), fun t1 m1 => ?_⟩
      refine ⟨.str a1, rfl, (by show 2 ≤ sizeLine; decide), fun t2 m2 => ?_⟩
      refine ⟨.str a1, rfl, a1, dotS, rfl, rfl, by rw [dl]; exact Nat.le_trans (show _ ≤ 1000 by omega) (by decide), .str a3, rfl, _, a3, rfl, rfl, by rw [len_add, dl]; exact Nat.le_trans (show _ ≤ 1000 by omega) (by decide), .str a1, rfl, .str a3, rfl, rfl, (by show 2 ≤ sizeLine; decide), fun t3 m3 => ?_⟩
      refine ⟨(by show 3 ≤ sizeLine; decide), fun L nL => ?_⟩
      have y1 : Ex [] H2 _ := .new (o := .tup [.str (a1 ++ dotS ++ a2), .bl (decide (V.str a1 = V.str a3))]) m1
      have y2 : Ex [] _ _ := .new (o := .tup [.str a1, .bl false]) m2
      have y3 : Ex [] _ _ := .new (o := .tup [.str (a1 ++ dotS ++ a3), .bl (decide (V.str a1 = V.str a3))]) m3
      have y4 : Ex [] _ _ := .new (o := .lst [.ref t1, .ref t2, .ref t3]) nL
      have h1 := ((y2.trans y3).trans y4).tup upd_same
      have h2 := (y3.trans y4).tup upd_same
      have h3 := y4.tup upd_same
      have xx := x2.trans (((y1.trans y2).trans y3).trans y4).nil
      have DD := D2.ex (((y1.trans y2).trans y3).trans y4) (by simp)
      have hL : (upd (upd (upd (upd H2 t1 (.tup [.str (a1 ++ dotS ++ a2), .bl (decide (V.str a1 = V.str a3))])) t2 (.tup [.str a1, .bl false])) t3 (.tup [.str (a1 ++ dotS ++ a3), .bl (decide (V.str a1 = V.str a3))])) L (.lst [.ref t1, .ref t2, .ref t3])) L = some (.lst [.ref t1, .ref t2, .ref t3]) := upd_same
      generalize eH : upd (upd (upd (upd H2 t1 (.tup [.str (a1 ++ dotS ++ a2), .bl (decide (V.str a1 = V.str a3))])) t2 (.tup [.str a1, .bl false])) t3 (.tup [.str (a1 ++ dotS ++ a3), .bl (decide (V.str a1 = V.str a3))])) L (.lst [.ref t1, .ref t2, .ref t3]) = H8 at h1 h2 h3 xx DD hL
      refine ⟨L, rfl, ⟨_, .of hL⟩, for_list (a := L) (xs := [.ref t1, .ref t2, .ref t3]) (fun i σ H9 => H9 = H8 ∧ ∃ y5 y6 y7, σ = [some (.ref d), some (.ref l), some (.str a1), some (.str a2), some (.str a3), y5, y6, y7, none]) ⟨rfl, _, _, _, rfl⟩ (fun i σ H9 _ h => by rw [h.1]; exact .of hL) ?_ ?_⟩
      · intro i x σ H9 hx ⟨e, y5, y6, y7, es⟩
        subst e es
        have dv : decide (V.str a1 = V.str a3) = decide (a1 = a3) := by
          by_cases z : a1 = a3
          · rw [decide_eq_true z, decide_eq_true (congrArg V.str z)]
          · rw [decide_eq_false z, decide_eq_false fun y => z (V.str.inj y)]
        obtain ⟨t, bx, b, ht, hb, hs⟩ : ∃ t bx b, x = .ref t ∧ H9 t = some (.tup [.str bx, .bl b]) ∧ Txt.startswith bx (a3 ++ dotS) = b := by
          match i, hx with
          | 0, hx => cases hx; exact ⟨t1, _, _, rfl, h1, by rw [starts_rec n1 n3, dv]⟩
          | 1, hx => cases hx; exact ⟨t2, _, _, rfl, h2, starts_one n1⟩
          | 2, hx => cases hx; exact ⟨t3, _, _, rfl, h3, by rw [starts_rec n1 n3, dv]⟩
          | i + 3, hx => simp at hx
        subst ht
        refine ⟨t, _, rfl, .of hb, rfl, _, _, rfl, _, _, rfl, rfl, ?_⟩
        refine ⟨.str bx, rfl, .str a3, rfl, bx, a3, rfl, by omega, ?_⟩
        rw [hs]
        refine ⟨.bl b, rfl, .bl b, .ty "bool", .type "bool", .type "bool", true, rfl, .ty "bool", .base (.bl b), kit_ty (by decide +kernel), true, rfl, iteF ?_⟩
        refine ⟨.bl b, rfl, .bl b, rfl, rfl, _, rfl, ?_⟩
        rw [decide_eq_true rfl]
        exact iteF ⟨rfl, _, _, _, rfl⟩
      · intro σ H9 ⟨e, y5, y6, y7, es⟩
        subst e es
        exact q _ xx DD
end
end K01

namespace K01
open PySem PySem.Spec PyProof.Rows L2 Kk
abbrev sLaw : Stmt := topS 17
abbrev nLaw : List Str := ["_law_script", "_law_thing", "_law_k", "_law_deck_here", "_law_one", "_law_other", "_law_dots", "_law_text_here", "_law_names_here"]
theorem scLaw : FnScope nLaw ["_law_script"] (defScope sLaw) := ⟨rfl, rfl, rfl, by decide +kernel, rfl, by decide +kernel, by decide +kernel⟩
section
variable {P : Program} {w : World} {K : PySem.W.Frag} {mg : Str → Option Value} {base : Heap}
/-- a def that may be called: its promise, where it stands, how its arguments come -/
structure Cl (P : Program) (w : World) (K : PySem.W.Frag) (mg : Str → Option Value) (base : Heap) (k : Nat) (x : Str) (ps : List Str) (sp : Sp) (f : Addr) (fd : FuncData) : Prop where
  g : FnOk P w K mg base CX0 k f fd ps sp
  k : PySem.W.keepIn K (.ref f) = true
  b : Binds K fd ps []
  m : mg x = some (.ref f)
def spLaw (K : PySem.W.Frag) (T : Addr) : Sp := fun vs H Q _ => ∃ (s : Addr) (ns : List Int), vs = [.ref s] ∧ SqL K H s (ns.map V.int) ∧ ns.length ≤ 63 ∧ GxR.TabG H T ∧ ∀ H', Q (.bl true) H'
theorem ok_law {f f1 f2 f3 f4 f5 f6 f7 f8 T : Addr} {fd fd1 fd2 fd3 fd4 fd5 fd6 fd7 fd8 : FuncData} {k : Nat} (F : Fun K "law" "law" sLaw f fd)
    (CN : Cl P w K mg base (k + 1) "is_name" ["thing"] (spName K T) f1 fd1) (CB : Cl P w K mg base (k + 1) "is_box" ["thing"] (spBox K T) f2 fd2)
    (CDk : Cl P w K mg base (k + 1) "_law_deck" ["_law_script", "_law_k"] (spDeck K) f3 fd3) (CD : Cl P w K mg base (k + 1) "_law_draw" ["_law_deck_here", "_law_many"] spDraw f4 fd4)
    (CT : Cl P w K mg base (k + 1) "_law_text" ["_law_deck_here"] spText f5 fd5) (CR : Cl P w K mg base (k + 1) "_law_right" ["_law_text_here"] (spRight T) f6 fd6)
    (CNs : Cl P w K mg base (k + 1) "_law_names" ["_law_deck_here", "_law_many"] spNames f7 fd7) (CRs : Cl P w K mg base (k + 1) "_law_records_right" ["_law_deck_here", "_law_names_here"] spRecs f8 fd8)
    (ml : mg "len" = none) (mr : mg "range" = none) (mx : mg "max" = none) (mn : mg "min" = none) : FnOk P w K mg base CX0 (k + 2) f fd ["_law_script"] (spLaw K T) := by
  refine F.ok scLaw (fun vs H Q E h => ?_) (fun cdv A outer s H vs Q E hr h => ?_)
  · obtain ⟨s, ns, rfl, _⟩ := h; rfl
  · obtain ⟨sc, ns, rfl, hS, hns, hT, q⟩ := h
    refine ⟨_, pss_cons (ps_for PassesOwn.never rfl (pi_list (pe_lst (pa_cons pe_non (pa_cons pe_int (pa_cons pe_bl (pa_cons (pe_tup pa_nil) (pa_cons (pe_tup (pa_cons pe_str pa_nil)) (pa_cons (pe_lst (pa_cons pe_str pa_nil)) (pa_cons (pe_op op_pow pe_int pe_int) (pa_cons (pe_tup (pa_cons pe_str (pa_cons pe_str pa_nil))) pa_nil)))))))))) (pg_name (i := 1) scLaw.nd rfl (.inl rfl))
        (pss_one (ps_if (PW.pt (pw_or (pt_cmpR op_isnot_bl (pe_call CN.g hr (by rfl) CN.m CN.k CN.b .nil pass0 (pa_cons (pv 1) pa_nil)) pe_bl (nomark _)) (pw_or1 (pt_cmpR op_isnot_bl (pe_call CB.g hr (by rfl) CB.m CB.k CB.b .nil pass0 (pa_cons (pv 1) pa_nil)) pe_bl (nomark _))))) (pss_one (ps_ret pe_bl)) pss_nil)))
      (pss_cons (ps_for PassesOwn.never rfl (pi_range1 (by rfl) mr (pa_cons (pe_callB (call_max2 rfl) (by rfl) mx (by decide +kernel) (pa_cons pe_int (pa_cons (pe_callB (call_min2 rfl) (by rfl) mn (by decide +kernel) (pa_cons (pe_callB call_len_seq (by rfl) ml PySem.boot_len (pa_cons (pv 0) pa_nil)) (pa_cons pe_int pa_nil))) pa_nil))) pa_nil)) (pg_name (i := 2) scLaw.nd rfl (.inl rfl))
        (pss_cons (ps_set (i := 3) scLaw.nd rfl (.inl rfl) (pe_call CDk.g hr (by rfl) CDk.m CDk.k CDk.b .nil pass0 (pa_cons (pv 0) (pa_cons (pv 2) pa_nil))))
        (pss_cons (ps_set (i := 4) scLaw.nd rfl (.inl rfl) (pe_call CT.g hr (by rfl) CT.m CT.k CT.b .nil pass0 (pa_cons (pv 3) pa_nil)))
        (pss_cons (ps_set (i := 5) scLaw.nd rfl (.inl rfl) (pe_call CT.g hr (by rfl) CT.m CT.k CT.b .nil pass0 (pa_cons (pv 3) pa_nil)))
        (pss_cons (ps_set (i := 6) scLaw.nd rfl (.inl rfl) (pe_ix ix_list (pe_lst (pa_cons pe_str (pa_cons pe_str (pa_cons pe_str (pa_cons pe_str pa_nil))))) (pe_call CD.g hr (by rfl) CD.m CD.k CD.b .nil pass0 (pa_cons (pv 3) (pa_cons pe_int pa_nil))) (fun _ _ => rfl)))
        (pss_cons (ps_for PassesOwn.never rfl (pi_list (pe_lst (pa_cons (pv 4) (pa_cons (pv 5) (pa_cons (pe_op op_add_str (pe_op op_add_str (pv 4) (pv 6)) (pv 5)) (pa_cons (pe_op op_add_str (pv 4) pe_str) (pa_cons (pe_op op_add_str pe_str (pv 4)) (pa_cons (pe_op op_add_str (pe_op op_add_str (pe_op op_add_str (pe_op op_add_str (pv 4) pe_str) (pv 5)) pe_str) (pv 4)) pa_nil)))))))) (pg_name (i := 7) scLaw.nd rfl (.inl rfl))
          (pss_one (ps_if (pt_not (pt_val (pe_call CR.g hr (by rfl) CR.m CR.k CR.b .nil pass0 (pa_cons (pv 7) pa_nil)))) (pss_one (ps_ret pe_bl)) pss_nil)))
        (pss_cons (ps_set (i := 8) scLaw.nd rfl (.inl rfl) (pe_call CNs.g hr (by rfl) CNs.m CNs.k CNs.b .nil pass0 (pa_cons (pv 3) (pa_cons pe_int pa_nil))))
        (pss_cons (ps_set (i := 8) scLaw.nd rfl (.inl rfl) (pe_op op_cat (pv 8) (pe_lst (pa_cons (pe_slice sl_str (pe_ix ix_list (pv 8) pe_int (fun _ _ => rfl)) po_none (po_some pe_int)) (pa_cons (pe_slice sl_str (pe_ix ix_list (pv 8) pe_int (fun _ _ => rfl)) po_none (po_some pe_int)) (pa_cons (pe_slice sl_str (pe_ix ix_list (pv 8) pe_int (fun _ _ => rfl)) po_none (po_some (pe_un un_neg pe_int))) pa_nil))))))
        (pss_one (ps_if (pt_not (pt_val (pe_call CRs.g hr (by rfl) CRs.m CRs.k CRs.b .nil pass0 (pa_cons (pv 3) (pa_cons (pe_op op_cat (pv 8) (pe_lst (pa_cons pe_str (pa_cons pe_str (pa_cons pe_str (pa_cons pe_str pa_nil)))))) pa_nil))))) (pss_one (ps_ret pe_bl)) pss_nil))))))))))
      (pss_one (ps_ret pe_bl))), ?_⟩
    -- the things that are no texts
    refine ⟨(by show 0 ≤ sizeLine; decide), fun t1 m1 => ?_⟩
    refine ⟨(by show 1 ≤ sizeLine; decide), fun t2 m2 => ?_⟩
    refine ⟨(by show 1 ≤ sizeLine; decide), fun t3 m3 => ?_⟩
    refine ⟨10, 30, rfl, rfl, ⟨by decide, by decide, by decide⟩, ?_⟩
    refine ⟨(by show 2 ≤ sizeLine; decide), fun t4 m4 => ?_⟩
    refine ⟨(by show 8 ≤ sizeLine; decide), fun L nL => ?_⟩
    have y1 : Ex [] H _ := .new (o := .tup []) m1
    have y2 : Ex [] _ _ := .new (o := .tup [.str (Str.ofString "a")]) m2
    have y3 : Ex [] _ _ := .new (o := .lst [.str (Str.ofString "a")]) m3
    have y4 : Ex [] _ _ := .new (o := .tup [.str (Str.ofString "a"), .str (Str.ofString "b")]) m4
    have y5 : Ex [] _ _ := .new (o := .lst [.non, .int 5, .bl true, .ref t1, .ref t2, .ref t3, .int (10 ^ Int.toNat 30), .ref t4]) nL
    have h1 := (((y2.trans y3).trans y4).trans y5).tup upd_same
    have h2 := ((y3.trans y4).trans y5).tup upd_same
    have h3 := (y4.trans y5).lst upd_same
    have h4 := y5.tup upd_same
    have xx := (((y1.trans y2).trans y3).trans y4).trans y5
    have hL := upd_same (H := upd (upd (upd (upd H t1 (.tup [])) t2 (.tup [.str (Str.ofString "a")])) t3 (.lst [.str (Str.ofString "a")])) t4 (.tup [.str (Str.ofString "a"), .str (Str.ofString "b")])) (a := L) (o := .lst [.non, .int 5, .bl true, .ref t1, .ref t2, .ref t3, .int (10 ^ Int.toNat 30), .ref t4])
    generalize upd (upd (upd (upd (upd H t1 (.tup [])) t2 (.tup [.str (Str.ofString "a")])) t3 (.lst [.str (Str.ofString "a")])) t4 (.tup [.str (Str.ofString "a"), .str (Str.ofString "b")])) L (.lst [.non, .int 5, .bl true, .ref t1, .ref t2, .ref t3, .int (10 ^ Int.toNat 30), .ref t4]) = H8 at h1 h2 h3 h4 xx hL
    have hT8 := xx.t _ hT
    refine ⟨L, rfl, ⟨_, .of hL⟩, for_list (a := L) (xs := [.non, .int 5, .bl true, .ref t1, .ref t2, .ref t3, .int (10 ^ Int.toNat 30), .ref t4]) (fun i σ H9 => H9 = H8 ∧ ∃ y, σ = [some (.ref sc), y, none, none, none, none, none, none, none]) ⟨rfl, _, rfl⟩ (fun i σ H9 _ h => by rw [h.1]; exact .of hL) ?_ ?_⟩
    · intro i x σ H9 hx ⟨e, y, es⟩
      subst e es
      have hN : NoStr K H9 x := by
        match i, hx with
        | 0, hx => cases hx; exact ⟨"NoneType", .base .non, by decide +kernel⟩
        | 1, hx => cases hx; exact ⟨"int", .base (.int _), by decide +kernel⟩
        | 2, hx => cases hx; exact ⟨"bool", .base (.bl _), by decide +kernel⟩
        | 3, hx => cases hx; exact ⟨"tuple", .base (.tup h1), by decide +kernel⟩
        | 4, hx => cases hx; exact ⟨"tuple", .base (.tup h2), by decide +kernel⟩
        | 5, hx => cases hx; exact ⟨"list", .base (.lst h3), by decide +kernel⟩
        | 6, hx => cases hx; exact ⟨"int", .base (.int _), by decide +kernel⟩
        | 7, hx => cases hx; exact ⟨"tuple", .base (.tup h4), by decide +kernel⟩
        | i + 8, hx => simp at hx
      refine ⟨x, rfl, x, rfl, hT8, .inr ⟨hN, ?_⟩⟩
      refine ⟨false, false, rfl, rfl, _, rfl, iteF ?_⟩
      refine ⟨x, rfl, x, rfl, hT8, .inr ⟨hN, ?_⟩⟩
      exact ⟨false, false, rfl, rfl, _, rfl, iteF ⟨rfl, _, rfl⟩⟩
    · intro σ H9 ⟨e, y, es⟩
      subst e es
      have hS9 : SqL K H9 sc (ns.map V.int) := xx.seqL hS
      generalize hmx : (if (if (20 : Int) < ((ns.map V.int).length : Int) then (20 : Int) else ((ns.map V.int).length : Int)) > 1 then (if (20 : Int) < ((ns.map V.int).length : Int) then (20 : Int) else ((ns.map V.int).length : Int)) else 1) = mx0
      have hm : 0 ≤ mx0 ∧ mx0 < 2 ^ 62 := by
        rw [← hmx]
        split
        · split <;> omega
        · omega
      refine ⟨.ref sc, rfl, sc, _, rfl, .inl hS9, _, 20, rfl, 1, _, rfl, mx0, by rw [← hmx], by omega, hm.2, for_range (lo := 0) (n := mx0.toNat) (fun i σ H2 => Ex [] H9 H2 ∧ ∃ y1 y2 y3 y4 y5 y6 y7 y8, σ = [some (.ref sc), y1, y2, y3, y4, y5, y6, y7, y8]) ⟨.refl, _, _, _, _, _, _, _, _, rfl⟩ ?_ ?_⟩
      · intro i σ H2 hi ⟨x2, y1, y2, y3, y4, y5, y6, y7, y8, es⟩
        subst es
        -- the deck, two texts
        refine ⟨.ref sc, rfl, .int (0 + (i : Int)), rfl, sc, ns, i, by simp, x2.seqL hS9, fun H3 d nd x3 D3 => ?_⟩
        refine ⟨.ref d, rfl, d, 0, rfl, D3, by omega, fun H4 a ha x4 D4 => ?_⟩
        refine ⟨.ref d, rfl, d, 20, rfl, D4, by omega, fun H5 b hb x5 D5 => ?_⟩
        -- the dots
        refine ⟨(by show 4 ≤ sizeLine; decide), fun M nM => ?_⟩
        have dM : d ≠ M := fun z => by obtain ⟨_, q⟩ := D5.some; rw [z, nM] at q; cases q
        refine ⟨.ref d, rfl, d, 4, 40, rfl, D5.ex (.new (xs := []) nM) (by simp), by omega, by decide, by decide, fun H6 j hj0 hj1 x6 D6 => ?_⟩
        have hM := x6.lst (upd_same (H := H5) (a := M) (o := .lst [.str (Str.ofString ""), .str (Str.ofString "."), .str (Str.ofString ".."), .str (Str.ofString ".")])) (by simpa using dM.symm)
        obtain ⟨dt, hdt1, hdt2⟩ : ∃ y : Str, atI [V.str (Str.ofString ""), V.str (Str.ofString "."), V.str (Str.ofString ".."), V.str (Str.ofString ".")] j = some (.str y) ∧ y.length ≤ 2 := by
          have h : j = 0 ∨ j = 1 ∨ j = 2 ∨ j = 3 := by omega
          rcases h with rfl | rfl | rfl | rfl
          · exact ⟨_, rfl, by decide +kernel⟩
          · exact ⟨_, rfl, by decide +kernel⟩
          · exact ⟨_, rfl, by decide +kernel⟩
          · exact ⟨_, rfl, by decide +kernel⟩
        refine ⟨M, _, j, .str dt, rfl, rfl, .of hM, hdt1, ?_⟩
        have x36 : Ex [d] H3 H6 := ((x4.trans x5).trans (.new nM)).trans x6
        have dl : dotS.length = 1 := by decide +kernel
        have sm : ∀ n : Nat, n ≤ 1000 → n ≤ sizeLine := fun n h => Nat.le_trans h (by decide)
        -- the six texts
        refine ⟨.str a, rfl, .str b, rfl, .str a, rfl, .str dt, rfl, a, dt, rfl, rfl, sm _ (by omega), .str b, rfl, _, b, rfl, rfl, sm _ (by rw [len_add]; omega), .str a, rfl, a, dotS, rfl, rfl, sm _ (by omega), .str a, rfl, dotS, a, rfl, rfl, sm _ (by omega),
          .str a, rfl, a, dotS, rfl, rfl, sm _ (by omega), .str b, rfl, _, b, rfl, rfl, sm _ (by rw [len_add]; omega), _, dotS, rfl, rfl, sm _ (by rw [len_add, len_add]; omega), .str a, rfl, _, a, rfl, rfl, sm _ (by rw [len_add, len_add, len_add]; omega), (by show 6 ≤ sizeLine; decide), fun L2 nL2 => ?_⟩
        have x7 : Ex [] H6 _ := .new (o := .lst [.str a, .str b, .str (a ++ dt ++ b), .str (a ++ dotS), .str (dotS ++ a), .str (a ++ dotS ++ b ++ dotS ++ a)]) nL2
        have hL2 := upd_same (H := H6) (a := L2) (o := .lst [.str a, .str b, .str (a ++ dt ++ b), .str (a ++ dotS), .str (dotS ++ a), .str (a ++ dotS ++ b ++ dotS ++ a)])
        generalize upd H6 L2 (.lst [.str a, .str b, .str (a ++ dt ++ b), .str (a ++ dotS), .str (dotS ++ a), .str (a ++ dotS ++ b ++ dotS ++ a)]) = H7 at x7 hL2
        refine ⟨L2, rfl, ⟨_, .of hL2⟩, for_list (a := L2) (xs := [.str a, .str b, .str (a ++ dt ++ b), .str (a ++ dotS), .str (dotS ++ a), .str (a ++ dotS ++ b ++ dotS ++ a)])
          (fun i' σ H10 => Ex [] H7 H10 ∧ ∃ y, σ = [some (.ref sc), y1, some (.int (0 + (i : Int))), some (.ref d), some (.str a), some (.str b), some (.str dt), y, y8]) ⟨.refl, _, rfl⟩ (fun i' σ H10 _ h => .of (h.1.lst hL2)) ?_ ?_⟩
        · intro i' x σ H10 hx ⟨x10, y, es⟩
          subst es
          obtain ⟨z, hz, hzl⟩ : ∃ z : Str, x = .str z ∧ z.length ≤ 1000 := by
            match i', hx with
            | 0, hx => cases hx; exact ⟨a, rfl, by omega⟩
            | 1, hx => cases hx; exact ⟨b, rfl, by omega⟩
            | 2, hx => cases hx; exact ⟨_, rfl, by rw [len_add, len_add]; omega⟩
            | 3, hx => cases hx; exact ⟨_, rfl, by rw [len_add]; omega⟩
            | 4, hx => cases hx; exact ⟨_, rfl, by rw [len_add]; omega⟩
            | 5, hx => cases hx; exact ⟨_, rfl, by rw [len_add, len_add, len_add, len_add]; omega⟩
            | i' + 6, hx => simp at hx
          subst hz
          refine ⟨.str z, rfl, z, rfl, hzl, x10.t _ (x7.t _ (x36.t _ (x3.t _ (x2.t _ hT8)))), fun H11 x11 => ⟨true, rfl, iteF ⟨x10.trans x11, _, rfl⟩⟩⟩
        · intro σ H10 ⟨x10, y, es⟩
          subst es
          have x3_10 : Ex [d] H3 H10 := x36.trans (x7.trans x10).nil
          have D10 : Deck H10 d 41 := D6.ex (x7.trans x10) (by simp)
          -- names
          refine ⟨.ref d, rfl, d, 3, 41, rfl, D10, by omega, by decide, fun H11 p ws np x11 D11 hp hwl hws => ?_⟩
          obtain ⟨w1, w2, w3, rfl⟩ : ∃ w1 w2 w3, ws = [w1, w2, w3] := by
            match ws, hwl with
            | [w1, w2, w3], _ => exact ⟨w1, w2, w3, rfl⟩
          obtain ⟨n1, l1⟩ := hws w1 (by simp)
          obtain ⟨n2, l2⟩ := hws w2 (by simp)
          obtain ⟨n3, l3⟩ := hws w3 (by simp)
          have c1 := cut_len w1 none (some 2)
          have c2 := cut_len w1 none (some 1)
          have c3 := cut_len w2 none (some (-1))
          refine ⟨.ref p, rfl, .ref p, rfl, p, _, 0, .str w1, rfl, rfl, .of hp, rfl, 2, rfl, w1, rfl, sm _ (by omega), .ref p, rfl, p, _, 0, .str w1, rfl, rfl, .of hp, rfl, 1, rfl, w1, rfl, sm _ (by omega), .ref p, rfl, p, _, 1, .str w2, rfl, rfl, .of hp, rfl, 1, rfl, -1, rfl, w2, rfl, sm _ (by omega), (by show 3 ≤ sizeLine; decide), fun p2 np2 => ?_⟩
          have x12 : Ex [] H11 _ := .new (o := .lst [.str (cutS w1 none (some 2)), .str (cutS w1 none (some 1)), .str (cutS w2 none (some (-1)))]) np2
          refine ⟨p, p2, _, _, rfl, rfl, x12.lst hp, upd_same, (by show 6 ≤ sizeLine; decide), fun p3 np3 => ?_⟩
          have x13 : Ex [] _ _ := .new (o := .lst (List.map V.str [w1, w2, w3] ++ [.str (cutS w1 none (some 2)), .str (cutS w1 none (some 1)), .str (cutS w2 none (some (-1)))])) np3
          refine ⟨.ref d, rfl, .ref p3, rfl, (by show 4 ≤ sizeLine; decide), fun p4 np4 => ?_⟩
          have x14 : Ex [] _ _ := .new (o := .lst [.str (Str.ofString "same"), .str (Str.ofString "way"), .str (Str.ofString "ways"), .str (Str.ofString "wa")]) np4
          refine ⟨p3, p4, _, _, rfl, rfl, x14.lst upd_same, upd_same, (by show 10 ≤ sizeLine; decide), fun p5 np5 => ?_⟩
          have x15 : Ex [] _ _ := .new (o := .lst ((List.map V.str [w1, w2, w3] ++ [.str (cutS w1 none (some 2)), .str (cutS w1 none (some 1)), .str (cutS w2 none (some (-1)))]) ++ [.str (Str.ofString "same"), .str (Str.ofString "way"), .str (Str.ofString "ways"), .str (Str.ofString "wa")])) np5
          have D15 := D11.ex (((x12.trans x13).trans x14).trans x15) (by simp)
          have dp5 : p5 ≠ d := fun z => by
            obtain ⟨_, q⟩ := (D11.ex ((x12.trans x13).trans x14) (by simp)).some
            rw [z, q] at np5; cases np5
          refine ⟨d, p5, 51, [w1, w2, w3, cutS w1 none (some 2), cutS w1 none (some 1), cutS w2 none (some (-1)), Str.ofString "same", Str.ofString "way", Str.ofString "ways", Str.ofString "wa"], rfl, D15, by omega, upd_same, dp5, by simp, by simp, fun z hz => ?_, fun H16 x16 D16 => ⟨true, rfl, iteF ?_⟩⟩
          · simp only [List.mem_cons, List.not_mem_nil, or_false] at hz
            rcases hz with rfl | rfl | rfl | rfl | rfl | rfl | rfl | rfl | rfl | rfl
            · exact ⟨n1, l1⟩
            · exact ⟨n2, l2⟩
            · exact ⟨n3, l3⟩
            · exact ⟨cut_nm n1 _ _, by omega⟩
            · exact ⟨cut_nm n1 _ _, by omega⟩
            · exact ⟨cut_nm n2 _ _, by omega⟩
            · exact ⟨by decide +kernel, by decide +kernel⟩
            · exact ⟨by decide +kernel, by decide +kernel⟩
            · exact ⟨by decide +kernel, by decide +kernel⟩
            · exact ⟨by decide +kernel, by decide +kernel⟩
          · refine ⟨x2.trans (Ex.own nd x3 ((x3_10.trans x11).trans ((((x12.trans x13).trans x14).trans x15).nil.trans x16))), _, _, _, _, _, _, _, _, rfl⟩
      · intro σ H2 ⟨x2, y1, y2, y3, y4, y5, y6, y7, y8, es⟩
        subst es
        exact q _
end
end K01

namespace Kk
open PySem PySem.Spec PyProof.Rows L2
/-- the end of a law some of whose defs have generator expressions; what the top has told is handed on -/
theorem walkT {l : PySem.W.OpenLaw} {m lev : Nat} {q : Program} {loose : List Str} {XP : (Str → Option Value) → Heap → Prop} {YP : World → Heap → Prop} {dr : DefRec} {K : Params → PySem.W.Frag} {x : Str}
    (most : l.most = some m) (small : m ≤ sizeLine) (nodef : dr.params.defaults = []) (room : Room lev callerA) (written : ∀ (w : World) (h : Heap), YP w h → (K w.params).In h)
    (F : ∀ (w : World) (mg mb : Str → Option Value) (mean : ExcName → Option Value) (fa : Addr) (h : Heap), (K w.params).In h → PyProof.Rows.Top q (PySem.W.looseW q loose) mean mg mb h → mg dr.name = some (.ref fa) →
      LamX.LawAtS l w (K w.params) CX0 lev m x mg fa h) :
    PySem.W.WalkO q loose XP YP l.row.toRowW dr [] (fun f vs => PySem.call f vs) := by
  refine Att.attach_callB most nodef fun w s0 s1 mg mb fa o pm cd doc a vs ns gr Y ho hd hcd hmg hobj hin hlen hbits hgens => ?_
  have inK := written w _ Y
  obtain ⟨fd, tabs, sp, tAt, tOut, tHd, bind, prom, ok⟩ := F w mg mb _ fa _ inK gr.T hmg
  refine LamX.law_callTs inK gr.T.g gr.T.b gr.T.builtins gr.T.nolimit hgens tAt tOut tHd gr.T.bmain hobj hin (Nat.le_trans hlen small) room ok bind ?_ ?_
  · exact fun H hH hS => prom H a ns hlen hbits hH hS
  · exact fun H e s' z => z
end Kk
namespace K01
open PySem PySem.Spec PyProof.Rows L2 Kk
/-- where a def stands -/
structure At (K : PySem.W.Frag) (x : Str) (st : Stmt) (f : Addr) (fd : FuncData) : Prop where
  a : PySem.W.nsIn K mainGlobals x = some (some (.ref f))
  F : Fun K x x st f fd
theorem at_mk {K : PySem.W.Frag} {x : Str} {st : Stmt} {f : Addr} {oc : Value} {od an : Option Addr} {sl : Array (Option Value)} {kV doc pm cd ct : Value} (a : PySem.W.nsIn K mainGlobals x = some (some (.ref f)))
    (l : K.lookup f = some ⟨oc, od, .func (PySem.W.fnOf x x (defArgs st) (defBody st) (defScope st) .none kV doc pm an cd ct), sl⟩) (c : PySem.W.codeIn K cd x = true) (k : PySem.W.keepIn K (.ref f) = true) :
    At K x st f (PySem.W.fnOf x x (defArgs st) (defBody st) (defScope st) .none kV doc pm an cd ct) := ⟨a, fun_mk l c k⟩
theorem all_mk {l : PySem.W.OpenLaw} {w : World} {K : PySem.W.Frag} {q : Program} {loose : List Str} {mean : ExcName → Option Value} {h : Heap} {mg mb : Str → Option Value} {dn : DefRec} {fa c T tA : Addr} {f0 f1 f2 f3 f4 f5 f6 f7 f8 f9 f10 f11 f12 : Addr}
    {fd1 fd2 fd3 fd4 fd5 fd6 fd7 fd8 fd9 fd10 fd11 : FuncData} {oc0 kV0 doc0 pm0 ct0 oc12 kV12 doc12 pm12 cd12 ct12 : Value} {od0 an0 od12 an12 dT : Option Addr} {sl0 sl12 slT : Array (Option Value)} {its cvs : Array Value} {occ : Value} {odc : Option Addr} {slc : Array (Option Value)} {nT : Nat} {tk1 tk2 : Tok}
    (X : K.In h) (top : PyProof.Rows.Top q loose mean mg mb h) (hfa : mg "law" = some (.ref fa))
    (a0 : PySem.W.nsIn K mainGlobals "is_name" = some (some (.ref f0))) (l0 : K.lookup f0 = some ⟨oc0, od0, .func (PySem.W.fnOf "is_name" "is_name" (defArgs sName) (defBody sName) (defScope sName) .none kV0 doc0 pm0 an0 (.ref c) ct0), sl0⟩) (c0 : PySem.W.codeIn K (.ref c) "is_name" = true) (k0 : PySem.W.keepIn K (.ref f0) = true)
    (A1 : At K "is_box" sBox f1 fd1)
    (A2 : At K "in_record" sRec f2 fd2)
    (A3 : At K "_law_deck" sDeck f3 fd3)
    (A4 : At K "_law_draw" sDraw f4 fd4)
    (A5 : At K "_law_names" sNames f5 fd5)
    (A6 : At K "_law_tongue" sTongue f6 fd6)
    (A7 : At K "_law_text" sText f7 fd7)
    (A8 : At K "_law_is_name" sLName f8 fd8)
    (A9 : At K "_law_is_box" sLBox f9 fd9)
    (A10 : At K "_law_right" sRight f10 fd10)
    (A11 : At K "_law_records_right" sRecs f11 fd11)
    (a12 : PySem.W.nsIn K mainGlobals "law" = some (some (.ref f12))) (l12 : K.lookup f12 = some ⟨oc12, od12, .func (PySem.W.fnOf "law" "law" (defArgs sLaw) (defBody sLaw) (defScope sLaw) .none kV12 doc12 pm12 an12 cd12 ct12), sl12⟩) (c12 : PySem.W.codeIn K cd12 "law" = true) (k12 : PySem.W.keepIn K (.ref f12) = true)
    (rn : (recsOf q).find? (fun e => e.name == ("is_name" : Str)) = some dn) (lc : K.lookup c = some ⟨occ, odc, .fields cvs, slc⟩) (v11 : cvs[11]? = some (.ref T)) (tbn : K.lookup T = none)
    (gT : PySem.W.nsIn K mainGlobals "TONGUE" = some (some (.ref tA))) (lT : K.lookup tA = some ⟨.type "tuple", dT, .seq its nT, slT⟩) (vT : Vals tongV its.toList) (zT : its.size ≤ sizeLine)
    (gM : PySem.W.nsIn K mainGlobals "MOST_LETTERS" = some (some (.int 8 tk1))) (gL : PySem.W.nsIn K mainGlobals "LETTERS" = some (some (.str abc tk2)))
    (z0 : PySem.W.nsIn K mainGlobals "isinstance" = some none) (z1 : PySem.W.nsIn K mainGlobals "str" = some none) (z2 : PySem.W.nsIn K mainGlobals "len" = some none) (z3 : PySem.W.nsIn K mainGlobals "all" = some none) (z4 : PySem.W.nsIn K mainGlobals "int" = some none) (z5 : PySem.W.nsIn K mainGlobals "range" = some none) (z6 : PySem.W.nsIn K mainGlobals "bool" = some none) (z7 : PySem.W.nsIn K mainGlobals "max" = some none) (z8 : PySem.W.nsIn K mainGlobals "min" = some none) :
    LamX.LawAtS l w K CX0 5 63 "_law_script" mg fa h := by
  have G := top.g
  have e := hfa.symm.trans (PySem.W.mg_of X G a12)
  cases e
  have tb : PySem.W.tabIn K "is_name" = some (c, T) := by
    unfold PySem.W.tabIn
    rw [a0]
    simp only [l0]
    show (match K.lookup c with | some ⟨_, _, .fields vs, _⟩ => (match (vs[11]? : Option Value) with | some (.ref P) => some (c, P) | _ => none) | _ => none) = some (c, T)
    rw [lc]
    simp only [v11]
  obtain ⟨chd, cT⟩ := PySem.W.tab_of top X rn tb
  have F12 := fun_mk (st := sLaw) l12 c12 k12
  refine ⟨PySem.W.fnOf "law" "law" (defArgs sLaw) (defBody sLaw) (defScope sLaw) .none kV12 doc12 pm12 an12 cd12 ct12, [(c, T)], spLaw K T, ?_, ?_, ?_, fun s v => .of_eq rfl, ?_, fun base inB gls tabs => ?_⟩
  · intro p hp; rw [List.mem_singleton.mp hp]; exact cT
  · intro p hp; rw [List.mem_singleton.mp hp]; exact tbn
  · intro p hp; rw [List.mem_singleton.mp hp]; exact chd
  · intro H a ns hl _ hH hS
    exact ⟨a, ns, rfl, hS, hl, ⟨#[], hH (c, T) (by simp), True.intro⟩, fun _ => rfl⟩
  · have tab : GxR.TabB base mg c T := by
      obtain ⟨u1, u2, u3⟩ := tabs (c, T) (by simp)
      exact ⟨u1, u2, u3⟩
    have M : Mg K mg tA := ⟨PySem.W.mg_none_of X G z0, PySem.W.mg_none_of X G z1, PySem.W.mg_none_of X G z2, PySem.W.mg_none_of X G z3, PySem.W.mg_of X G gT, fun H => .inr ⟨_, its, nT, lT, rfl, rfl, zT, vT⟩, ⟨_, PySem.W.mg_of X G gM⟩, ⟨_, PySem.W.mg_of X G gL⟩⟩
    have m_isinstance := PySem.W.mg_none_of X G z0
    have m_str := PySem.W.mg_none_of X G z1
    have m_len := PySem.W.mg_none_of X G z2
    have m_all := PySem.W.mg_none_of X G z3
    have m_int := PySem.W.mg_none_of X G z4
    have m_range := PySem.W.mg_none_of X G z5
    have m_bool := PySem.W.mg_none_of X G z6
    have m_max := PySem.W.mg_none_of X G z7
    have m_min := PySem.W.mg_none_of X G z8
    have g0 := PySem.W.mg_of X G a0
    have g1 := PySem.W.mg_of X G A1.a
    have g2 := PySem.W.mg_of X G A2.a
    have g3 := PySem.W.mg_of X G A3.a
    have g4 := PySem.W.mg_of X G A4.a
    have g5 := PySem.W.mg_of X G A5.a
    have g6 := PySem.W.mg_of X G A6.a
    have g7 := PySem.W.mg_of X G A7.a
    have g8 := PySem.W.mg_of X G A8.a
    have g9 := PySem.W.mg_of X G A9.a
    have g10 := PySem.W.mg_of X G A10.a
    have g11 := PySem.W.mg_of X G A11.a
    have F0 := fun_mk (st := sName) l0 c0 k0
    have b0 := F0.binds (ps := ["thing"]) fun _ _ _ _ _ _ us hl => match us, hl with | [_], _ => rfl
    have b1 := A1.F.binds (ps := ["thing"]) fun _ _ _ _ _ _ us hl => match us, hl with | [_], _ => rfl
    have b2 := A2.F.binds (ps := ["box", "name"]) fun _ _ _ _ _ _ us hl => match us, hl with | [_, _], _ => rfl
    have b3 := A3.F.binds (ps := ["_law_script", "_law_k"]) fun _ _ _ _ _ _ us hl => match us, hl with | [_, _], _ => rfl
    have b4 := A4.F.binds (ps := ["_law_deck_here", "_law_many"]) fun _ _ _ _ _ _ us hl => match us, hl with | [_, _], _ => rfl
    have b5 := A5.F.binds (ps := ["_law_deck_here", "_law_many"]) fun _ _ _ _ _ _ us hl => match us, hl with | [_, _], _ => rfl
    have b6 := A6.F.binds (ps := []) fun _ _ _ _ _ _ us hl => match us, hl with | [], _ => rfl
    have b7 := A7.F.binds (ps := ["_law_deck_here"]) fun _ _ _ _ _ _ us hl => match us, hl with | [_], _ => rfl
    have b8 := A8.F.binds (ps := ["_law_text_here"]) fun _ _ _ _ _ _ us hl => match us, hl with | [_], _ => rfl
    have b9 := A9.F.binds (ps := ["_law_text_here"]) fun _ _ _ _ _ _ us hl => match us, hl with | [_], _ => rfl
    have b10 := A10.F.binds (ps := ["_law_text_here"]) fun _ _ _ _ _ _ us hl => match us, hl with | [_], _ => rfl
    have b11 := A11.F.binds (ps := ["_law_deck_here", "_law_names_here"]) fun _ _ _ _ _ _ us hl => match us, hl with | [_, _], _ => rfl
    have o0 : FnOk l.prog w K mg base CX0 1 f0 _ ["thing"] (spName K T) := ok_name l0 c0 tab M gls
    have o1 : FnOk l.prog w K mg base CX0 2 f1 fd1 ["thing"] (spBox K T) := ok_box A1.F o0 k0 b0 g0 M
    have o2 : FnOk l.prog w K mg base CX0 1 f2 fd2 ["box", "name"] spRec := ok_rec A2.F
    have o3 : FnOk l.prog w K mg base CX0 1 f3 fd3 ["_law_script", "_law_k"] (spDeck K) := ok_deck A3.F m_len m_int
    have o4 : FnOk l.prog w K mg base CX0 1 f4 fd4 ["_law_deck_here", "_law_many"] spDraw := ok_draw A4.F
    have o5 : FnOk l.prog w K mg base CX0 2 f5 fd5 ["_law_deck_here", "_law_many"] spNames := ok_names A5.F o4 A4.F.kp b4 g4 m_len m_range
    have o6 : FnOk l.prog w K mg base CX0 1 f6 fd6 [] spTongue := ok_tongue A6.F
    have o7 : FnOk l.prog w K mg base CX0 2 f7 fd7 ["_law_deck_here"] spText := ok_text A7.F o4 A4.F.kp b4 g4 o6 A6.F.kp b6 g6 m_len m_range
    have o8 : FnOk l.prog w K mg base CX0 2 f8 fd8 ["_law_text_here"] spLName := ok_lname A8.F o6 A6.F.kp b6 g6 m_len
    have o9 : FnOk l.prog w K mg base CX0 3 f9 fd9 ["_law_text_here"] spLBox := ok_lbox A9.F o8 A8.F.kp b8 g8 m_len
    have o10 : FnOk l.prog w K mg base CX0 4 f10 fd10 ["_law_text_here"] (spRight T) := ok_right A10.F (o0.mono (by decide)) k0 b0 g0 (o8.mono (by decide)) A8.F.kp b8 g8 (o1.mono (by decide)) A1.F.kp b1 g1 o9 A9.F.kp b9 g9 m_isinstance m_bool
    have o11 : FnOk l.prog w K mg base CX0 2 f11 fd11 ["_law_deck_here", "_law_names_here"] spRecs := ok_recs A11.F o4 A4.F.kp b4 g4 o2 A2.F.kp b2 g2 m_len m_range m_isinstance m_bool
    exact ok_law F12 ⟨o0.mono (by decide), k0, b0, g0⟩ ⟨o1.mono (by decide), A1.F.kp, b1, g1⟩ ⟨o3.mono (by decide), A3.F.kp, b3, g3⟩ ⟨o4.mono (by decide), A4.F.kp, b4, g4⟩ ⟨o7.mono (by decide), A7.F.kp, b7, g7⟩ ⟨o10, A10.F.kp, b10, g10⟩ ⟨o5.mono (by decide), A5.F.kp, b5, g5⟩ ⟨o11.mono (by decide), A11.F.kp, b11, g11⟩ m_len m_range m_max m_min
end K01

open PySem PySem.W PyProof.Rows
set_option maxRecDepth 100000 in
set_option maxHeartbeats 0 in
theorem PySem.Challenge.cw_wipeways_k01_names_and_boxes_holds : PySem.Challenge.rw_wipeways_k01_names_and_boxes.Holds := by
  w_on; o_law; k_head; (case hw => w_witness2)
  k_fill
  refine Kk.walkT (l := PySem.Challenge.rw_wipeways_k01_names_and_boxes) (m := 63) (lev := 5) (x := "_law_script") rfl (by decide) rfl ⟨rfl, by decide, by decide⟩ (fun w h Y => PySem.W.kIn_of Y) ?F
  case F =>
    intro w mg mb mean fa h KX top hmg
    refine' K01.all_mk KX top hmg ?a0 ?l0 ?c0 ?k0 (K01.at_mk ?a1 ?l1 ?c1 ?k1) (K01.at_mk ?a2 ?l2 ?c2 ?k2) (K01.at_mk ?a3 ?l3 ?c3 ?k3) (K01.at_mk ?a4 ?l4 ?c4 ?k4) (K01.at_mk ?a5 ?l5 ?c5 ?k5) (K01.at_mk ?a6 ?l6 ?c6 ?k6) (K01.at_mk ?a7 ?l7 ?c7 ?k7) (K01.at_mk ?a8 ?l8 ?c8 ?k8) (K01.at_mk ?a9 ?l9 ?c9 ?k9) (K01.at_mk ?a10 ?l10 ?c10 ?k10) (K01.at_mk ?a11 ?l11 ?c11 ?k11) ?a12 ?l12 ?c12 ?k12 ?rn ?lc ?v11 ?tbn ?gT ?lT ?vT ?zT ?gM ?gL ?z0 ?z1 ?z2 ?z3 ?z4 ?z5 ?z6 ?z7 ?z8
    (case a0 => k_is); (case l0 => k_is); (case c0 => k_is); (case k0 => k_is); (case a1 => k_is); (case l1 => k_is); (case c1 => k_is); (case k1 => k_is); (case a2 => k_is); (case l2 => k_is); (case c2 => k_is); (case k2 => k_is); (case a3 => k_is); (case l3 => k_is); (case c3 => k_is); (case k3 => k_is); (case a4 => k_is); (case l4 => k_is); (case c4 => k_is); (case k4 => k_is); (case a5 => k_is); (case l5 => k_is); (case c5 => k_is); (case k5 => k_is); (case a6 => k_is); (case l6 => k_is); (case c6 => k_is); (case k6 => k_is); (case a7 => k_is); (case l7 => k_is); (case c7 => k_is); (case k7 => k_is); (case a8 => k_is); (case l8 => k_is); (case c8 => k_is); (case k8 => k_is); (case a9 => k_is); (case l9 => k_is); (case c9 => k_is); (case k9 => k_is); (case a10 => k_is); (case l10 => k_is); (case c10 => k_is); (case k10 => k_is); (case a11 => k_is); (case l11 => k_is); (case c11 => k_is); (case k11 => k_is); (case a12 => k_is); (case l12 => k_is); (case c12 => k_is); (case k12 => k_is)
    (case gT => k_is); (case lT => k_is); (case gM => k_is); (case gL => k_is)
    (case z0 => k_is); (case z1 => k_is); (case z2 => k_is); (case z3 => k_is); (case z4 => k_is); (case z5 => k_is); (case z6 => k_is); (case z7 => k_is); (case z8 => k_is)
    (case lc => k_is); (case v11 => rfl); (case tbn => first | rfl | k_is | kernel_rfl)
    (case rn => rfl)
    (case zT => decide)
    (case vT => exact .cons ⟨_, rfl⟩ (.cons ⟨_, rfl⟩ (.cons ⟨_, rfl⟩ (.cons ⟨_, rfl⟩ (.cons ⟨_, rfl⟩ (.cons ⟨_, rfl⟩ (.cons ⟨_, rfl⟩ (.cons ⟨_, rfl⟩ (.cons ⟨_, rfl⟩ (.cons ⟨_, rfl⟩ (.cons ⟨_, rfl⟩ (.cons ⟨_, rfl⟩ (.cons ⟨_, rfl⟩ (.cons ⟨_, rfl⟩ (.cons ⟨_, rfl⟩ (.cons ⟨_, rfl⟩ (.cons ⟨_, rfl⟩ (.cons ⟨_, rfl⟩ (.cons ⟨_, rfl⟩ .nil)))))))))))))))))))

